/- 'both' of two texts of at most 600 bytes. -/
import Derived.Test.YtbfbijokhlkekaaDoorBothW
import Derived.BigRegion
namespace Go.Proofs.YtbfbijokhlkekaaDoor
open Go.RowKit

set_option maxRecDepth 20000 in
set_option maxHeartbeats 6400000 in
theorem both_short (s t : ByteArray) (w : World) (hs : s.size ≤ 600) (ht : t.size ≤ 600) : Calls Tryd.prog 22 #[.string s, .string t] w (BothPost s t w) := by
  have F := four_boxes w (.bool false) (.slice none 0 0) (.bool false) (.slice none 0 0) (.bool false) (.slice none 0 0) (.bool false) (.slice none 0 0) 25 25 31 31
  have P1 := Lib.hid (fun W => parse_any s W (by omega))
  have P2 := Lib.hid (fun W => parse_any t W (by omega))
  have R1 := Lib.hid (fun W => rparse_any s W (by omega))
  have R2 := Lib.hid (fun W => rparse_any t W (by omega))
  go_enter Tryd.func22, Tryd.ntmps22
  go_wp2_with fail
  change Calls Tryd.prog 13 #[.string s] ((((w.alloc (.cells #[.bool false, .slice none 0 0] 25)).alloc (.cells #[.bool false, .slice none 0 0] 25)).alloc (.cells #[.bool false, .slice none 0 0] 31)).alloc (.cells #[.bool false, .slice none 0 0] 31)) _
  generalize (((w.alloc (.cells #[.bool false, .slice none 0 0] 25)).alloc (.cells #[.bool false, .slice none 0 0] 25)).alloc (.cells #[.bool false, .slice none 0 0] 31)).alloc (.cells #[.bool false, .slice none 0 0] 31) = W0 at *
  obtain ⟨b0, b1, b2, b3, hsz, hbw⟩ := F
  have S0 : St w W0 _ _ _ _ _ _ _ _ := ⟨b0, b1, b2, b3, hbw, by omega⟩
  clear b0 b1 b2 b3 hsz hbw
  refine (P1.out _).mono ?_
  rintro e w1 ⟨k1, A1, c1, L1, rfl, hi1, hl1, hok1, hno1, hb1⟩
  have S1 := S0.call hb1
  clear S0 hb1
  have x0 := S1.b0.c0
  have y0 := S1.b0.c1
  have p0 := S1.b0.f0
  have q0 := S1.b0.f1
  go_wp2_with fail
  change Calls Tryd.prog 13 #[.string t] (setPair w1 w.heap.size (.bool k1) (.slice A1 (List.length L1) c1)) _
  have S2 := S1.s0 (.bool k1) (.slice A1 (List.length L1) c1)
  have I1 := IntR.pair S1.b0 hi1 (.bool k1) (.slice A1 (List.length L1) c1)
  have hz1 := setPair_size w1 w.heap.size (.bool k1) (.slice A1 (List.length L1) c1)
  generalize setPair w1 w.heap.size (.bool k1) (.slice A1 (List.length L1) c1) = W1 at *
  rw [← hz1] at I1
  clear S1 hi1 x0 y0 p0 q0 hz1
  refine (P2.out _).mono ?_
  rintro e w2 ⟨k2, A2, c2, L2, rfl, hi2, hl2, hok2, hno2, hb2⟩
  have S3 := S2.call hb2
  have I2 := I1.lift1 hb2 (Nat.le_refl _)
  clear S2 hb2 I1
  have x0 := S3.b1.c0
  have y0 := S3.b1.c1
  have p0 := S3.b1.f0
  have q0 := S3.b1.f1
  go_wp2_with fail
  change Calls Tryd.prog 14 #[.string s] (setPair w2 (w.heap.size + 1) (.bool k2) (.slice A2 (List.length L2) c2)) _
  have S4 := S3.s1 (.bool k2) (.slice A2 (List.length L2) c2)
  have I3 := IntR.pair S3.b1 I2 (.bool k2) (.slice A2 (List.length L2) c2)
  have J3 := IntR.pair S3.b1 hi2 (.bool k2) (.slice A2 (List.length L2) c2)
  have hz1 := setPair_size w2 (w.heap.size + 1) (.bool k2) (.slice A2 (List.length L2) c2)
  generalize setPair w2 (w.heap.size + 1) (.bool k2) (.slice A2 (List.length L2) c2) = W2 at *
  rw [← hz1] at I3 J3
  clear S3 hi2 x0 y0 p0 q0 hz1 I2
  refine (R1.out _).mono ?_
  rintro e w3 ⟨k3, A3, c3, L3, rfl, hi3, hl3, hok3, hno3, hb3⟩
  have S5 := S4.call hb3
  have I4 := I3.lift1 hb3 (Nat.le_refl _)
  have J4 := J3.lift1 hb3 (Nat.le_refl _)
  clear S4 hb3 I3 J3
  have x0 := S5.b2.c0
  have y0 := S5.b2.c1
  have p0 := S5.b2.f0
  have q0 := S5.b2.f1
  go_wp2_with fail
  change Calls Tryd.prog 14 #[.string t] (setPair w3 (w.heap.size + 1 + 1) (.bool k3) (.slice A3 (List.length L3) c3)) _
  have S6 := S5.s2 (.bool k3) (.slice A3 (List.length L3) c3)
  have I5 := IntR.pair S5.b2 I4 (.bool k3) (.slice A3 (List.length L3) c3)
  have J5 := IntR.pair S5.b2 J4 (.bool k3) (.slice A3 (List.length L3) c3)
  have M5 := RefR.pair S5.b2 hi3 (.bool k3) (.slice A3 (List.length L3) c3)
  have hz1 := setPair_size w3 (w.heap.size + 1 + 1) (.bool k3) (.slice A3 (List.length L3) c3)
  generalize setPair w3 (w.heap.size + 1 + 1) (.bool k3) (.slice A3 (List.length L3) c3) = W3 at *
  rw [← hz1] at I5 J5 M5
  clear S5 hi3 x0 y0 p0 q0 hz1 I4 J4
  refine (R2.out _).mono ?_
  rintro e w4 ⟨k4, A4, c4, L4, rfl, hi4, hl4, hok4, hno4, hb4⟩
  have S7 := S6.call hb4
  have I6 := I5.lift1 hb4 (Nat.le_refl _)
  have J6 := J5.lift1 hb4 (Nat.le_refl _)
  have M6 := M5.lift hb4 (Nat.le_refl _)
  clear S6 hb4 I5 J5 M5
  have x0 := S7.b3.c0
  have y0 := S7.b3.c1
  have p0 := S7.b3.f0
  have q0 := S7.b3.f1
  go_wp2_with fail
  change Code.wp Tryd.prog _ _ _ (setPair w4 (w.heap.size + 1 + 1 + 1) (.bool k4) (.slice A4 (List.length L4) c4))
  have S8 := S7.s3 (.bool k4) (.slice A4 (List.length L4) c4)
  have I7 := IntR.pair S7.b3 I6 (.bool k4) (.slice A4 (List.length L4) c4)
  have J7 := IntR.pair S7.b3 J6 (.bool k4) (.slice A4 (List.length L4) c4)
  have M7 := RefR.pair S7.b3 M6 (.bool k4) (.slice A4 (List.length L4) c4)
  have N7 := RefR.pair S7.b3 hi4 (.bool k4) (.slice A4 (List.length L4) c4)
  have hz1 := setPair_size w4 (w.heap.size + 1 + 1 + 1) (.bool k4) (.slice A4 (List.length L4) c4)
  generalize setPair w4 (w.heap.size + 1 + 1 + 1) (.bool k4) (.slice A4 (List.length L4) c4) = W4 at *
  rw [← hz1] at I7 J7 M7 N7
  clear S7 x0 y0 p0 q0 hz1 I6 J6 M6 hi4
  have x0 := S8.b0.c0
  have y0 := S8.b0.c1
  have p0 := S8.b0.f0
  have q0 := S8.b0.f1
  have x1 := S8.b1.c0
  have y1 := S8.b1.c1
  have p1 := S8.b1.f0
  have q1 := S8.b1.f1
  have x2 := S8.b2.c0
  have y2 := S8.b2.c1
  have p2 := S8.b2.f0
  have q2 := S8.b2.f1
  have x3 := S8.b3.c0
  have y3 := S8.b3.c1
  have p3 := S8.b3.f0
  have q3 := S8.b3.f1
  have HS8 := Lib.hid S8
  have HI7 := Lib.hid I7
  have HJ7 := Lib.hid J7
  have HM7 := Lib.hid M7
  have HN7 := Lib.hid N7
  clear S8 I7 J7 M7 N7
  have n1 : ¬ w.heap.size = w.heap.size + 1 + 1 := by omega
  have n2 : ¬ w.heap.size = w.heap.size + 1 + 1 + 1 := by omega
  have n3 : ¬ w.heap.size + 1 = w.heap.size + 1 + 1 + 1 := by omega
  have n4 : ¬ w.heap.size + 1 + 1 = w.heap.size := by omega
  have n5 : ¬ w.heap.size + 1 + 1 + 1 = w.heap.size := by omega
  have n6 : ¬ w.heap.size + 1 + 1 + 1 = w.heap.size + 1 := by omega
  have ks0 := keep0
  have ks1 := keep1
  have hpost : ∀ (ok : Bool) (W : World), (ok = true → errOf s.data.toList = 0 ∧ errOf t.data.toList = 0) → St w W (.bool k1) (.slice A1 (List.length L1) c1) (.bool k2) (.slice A2 (List.length L2) c2) (.bool k3) (.slice A3 (List.length L3) c3) (.bool k4) (.slice A4 (List.length L4) c4) →
      IntR W W.heap.size k1 A1 c1 L1 → IntR W W.heap.size k2 A2 c2 L2 → RefR W W.heap.size k3 A3 c3 L3 → RefR W W.heap.size k4 A4 c4 L4 →
      BothPost s t w (.returned (.tuple #[.agg #[.bool k1, .slice A1 (List.length L1) c1], .agg #[.bool k2, .slice A2 (List.length L2) c2], .agg #[.bool k3, .slice A3 (List.length L3) c3], .agg #[.bool k4, .slice A4 (List.length L4) c4], .bool ok])) W := by
    intro ok W hk hS h1 h2 h3 h4
    refine ⟨k1, A1, c1, L1, k2, A2, c2, L2, k3, A3, c3, L3, k4, A4, c4, L4, ok, rfl, h1, h2, h3, h4, hl1, hl2, hl3, hl4, fun h => ?_, hS.bw⟩
    obtain ⟨e1, e2⟩ := hk h
    exact ⟨e1, e2, (hok1.out e1).1, (hok1.out e1).2, (hok2.out e2).1, (hok2.out e2).2, (hok3.out e1).1, (hok3.out e1).2, (hok4.out e2).1, (hok4.out e2).2⟩
  have HP := Lib.hid hpost
  clear hpost hok1 hok2 hok3 hok4 hno1 hno2 hno3 hno4 hl1 hl2 hl3 hl4
  generalize errOf s.data.toList = er1 at *
  generalize errOf t.data.toList = er2 at *
  by_cases h1 : er1 = 0
  · by_cases h2 : er2 = 0
    · subst h1
      subst h2
      go_region_held3 (fun w' => w'.cell? ⟨w.heap.size, 0, none⟩ = some (.bool k1) ∧ w'.cell? ⟨w.heap.size, 1, none⟩ = some (.slice A1 (List.length L1) c1) ∧
        w'.cell? ⟨w.heap.size + 1, 0, none⟩ = some (.bool k2) ∧ w'.cell? ⟨w.heap.size + 1, 1, none⟩ = some (.slice A2 (List.length L2) c2) ∧
        w'.cell? ⟨w.heap.size + 1 + 1, 0, none⟩ = some (.bool k3) ∧ w'.cell? ⟨w.heap.size + 1 + 1, 1, none⟩ = some (.slice A3 (List.length L3) c3) ∧
        w'.cell? ⟨w.heap.size + 1 + 1 + 1, 0, none⟩ = some (.bool k4) ∧ w'.cell? ⟨w.heap.size + 1 + 1 + 1, 1, none⟩ = some (.slice A4 (List.length L4) c4)) (go_keep)
      (fail)
      all_goals
        go_wp2
        refine bodyPost_ret (v := .tuple #[.agg #[.bool k1, .slice A1 (List.length L1) c1], .agg #[.bool k2, .slice A2 (List.length L2) c2], .agg #[.bool k3, .slice A3 (List.length L3) c3], .agg #[.bool k4, .slice A4 (List.length L4) c4], .bool true]) (by simp [results, Tryd.results22, go_sem, x0, y0, x1, y1, x2, y2, x3, y3]) rfl ?_
        exact HP.out true _ (fun _ => ⟨trivial, trivial⟩) (St.last HS8.out) (IntR.last HS8.out HI7.out) (IntR.last HS8.out HJ7.out) (RefR.last HS8.out HM7.out) (RefR.last HS8.out HN7.out)
    · subst h1
      have g2 : ((er2 : Int) == 0) = false := by rw [beq_eq_false_iff_ne]; exact h2
      clear ks0 ks1
      go_region
      all_goals
        go_wp2
        refine bodyPost_ret (v := .tuple #[.agg #[.bool k1, .slice A1 (List.length L1) c1], .agg #[.bool k2, .slice A2 (List.length L2) c2], .agg #[.bool k3, .slice A3 (List.length L3) c3], .agg #[.bool k4, .slice A4 (List.length L4) c4], .bool false]) (by simp [results, Tryd.results22, go_sem, x0, y0, x1, y1, x2, y2, x3, y3]) rfl ?_
        exact HP.out false _ (fun h => absurd h Bool.false_ne_true) (St.last HS8.out) (IntR.last HS8.out HI7.out) (IntR.last HS8.out HJ7.out) (RefR.last HS8.out HM7.out) (RefR.last HS8.out HN7.out)
  · have g1 : ((er1 : Int) == 0) = false := by rw [beq_eq_false_iff_ne]; exact h1
    clear ks0 ks1
    go_region
    all_goals
      go_wp2
      refine bodyPost_ret (v := .tuple #[.agg #[.bool k1, .slice A1 (List.length L1) c1], .agg #[.bool k2, .slice A2 (List.length L2) c2], .agg #[.bool k3, .slice A3 (List.length L3) c3], .agg #[.bool k4, .slice A4 (List.length L4) c4], .bool false]) (by simp [results, Tryd.results22, go_sem, x0, y0, x1, y1, x2, y2, x3, y3]) rfl ?_
      exact HP.out false _ (fun h => absurd h Bool.false_ne_true) (St.last HS8.out) (IntR.last HS8.out HI7.out) (IntR.last HS8.out HJ7.out) (RefR.last HS8.out HM7.out) (RefR.last HS8.out HN7.out)

theorem both_any (s t : ByteArray) (w : World) : Calls Tryd.prog 22 #[.string s, .string t] w (BothPost s t w) := by
  by_cases h1 : 600 < s.size
  · exact both_long s t w (.inl h1)
  · by_cases h2 : 600 < t.size
    · exact both_long s t w (.inr h2)
    · exact both_short s t w (by omega) (by omega)
end Go.Proofs.YtbfbijokhlkekaaDoor
