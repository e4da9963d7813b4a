/- IntegerProducts: for every two texts the statement about Mul returns true. -/
import Derived.Test.YtbfbijokhlkekaaDoorBothS
import Derived.Test.YtbfbijokhlkekaaDoorRefMulI
import Derived.Test.YtbfbijokhlkekaaDoorEqual
namespace Go.Proofs.YtbfbijokhlkekaaDoor
open Go.RowKit

theorem txt_same {w w' : World} {B B' : Nat} {n m : Bool} {A A' : Option Addr} {c c' : Nat} {L M : List Nat} (hL : IntR w B n A c L) (hM : RefR w' B' m A' c' M) (h : zI n L = zR m M) : decI n (val9 L) = decI m (val4 M) := by
  have h1 : n = true → 0 < val9 L := fun h => Nat.pos_of_ne_zero (canon_pos hL.canon (List.length_pos_iff.2 (hL.sgn h)))
  have h2 : m = true → 0 < val4 M := fun h => Nat.pos_of_ne_zero (ref_pos hM (List.length_pos_iff.2 (hM.sgn h)))
  have h3 : n = m ∧ val9 L = val4 M := by
    unfold zI zR at h
    cases n <;> cases m <;> simp at h h1 h2 ⊢ <;> omega
  rw [h3.1, h3.2]
theorem same_true (n m : Bool) (A A' : Option Addr) (c c' : Nat) (L M : List Nat) (w : World) (hl : L.length ≤ 100000) (hml : M.length ≤ 1000000)
    (hL : IntR w w.heap.size n A c L) (hM : RefR w w.heap.size m A' c' M) (hz : zI n L = zR m M) (ht : Tab w.heap.size w) :
    Calls Tryd.prog 17 #[.agg #[.bool n, .slice A L.length c], .agg #[.bool m, .slice A' M.length c']] w fun e w' => e = .returned (.bool true) ∧ Below w.heap.size w w' := by
  have h := same_any n m A A' c c' L M w hl hml hL hM ht
  rw [txt_same hL hM hz, show (decI m (val4 M) == decI m (valB 10000 M)) = true by simp] at h
  exact h
/-- The integer that a good text stands for. -/
def textZ (l : List UInt8) : Int := if negOf l then -(numOf (restOf l) : Int) else (numOf (restOf l) : Int)
theorem textZ_I {l : List UInt8} {k : Bool} {L : List Nat} (h1 : k = negOf l) (h2 : val9 L = numOf (restOf l)) : zI k L = textZ l := by unfold zI textZ; rw [h1, h2]
theorem textZ_R {l : List UInt8} {k : Bool} {L : List Nat} (h1 : k = negOf l) (h2 : valB 10000 L = numOf (restOf l)) : zR k L = textZ l := by unfold zR textZ val4; rw [h1, h2]

set_option maxRecDepth 20000 in
set_option maxHeartbeats 12800000 in
theorem law_products (s t : ByteArray) (w : World) (htab : Tab w.heap.size w) :
    Calls Tryd.prog 6 #[.string s, .string t] w fun e w' => e = .returned (.bool true) ∧ Below w.heap.size w w' := by
  have HT := Lib.hid htab
  have HBO := Lib.hid (fun W => both_any s t W)
  clear htab
  go_enter Tryd.func6, Tryd.ntmps6
  go_wp2_with fail
  refine (awake_any w HT.out).mono ?_
  rintro e w1 ⟨rfl, hb1⟩
  go_wp2_with fail
  refine (HBO.out _).mono ?_
  rintro e w2 ⟨k1, A1, c1, L1, k2, A2, c2, L2, k3, A3, c3, L3, k4, A4, c4, L4, ok, rfl, I1, I2, M1, M2, hl1, hl2, hl3, hl4, hok, hb2⟩
  have hb12 := hb1.trans (Below.less hb2 hb1.size)
  clear hb1 hb2
  have F := four_boxes w2 (.bool k1) (.slice A1 (List.length L1) c1) (.bool k2) (.slice A2 (List.length L2) c2) (.bool k3) (.slice A3 (List.length L3) c3) (.bool k4) (.slice A4 (List.length L4) c4) 25 25 31 31
  cases ok
  · have HB12 := Lib.hid hb12
    clear hb12
    go_wp2_with fail
    go_ret
    exact ⟨rfl, HB12.out.trans (Below.less F.2.2.2.2.2 HB12.out.size)⟩
  · obtain ⟨e1, e2, q1, q2, q3, q4, q5, q6, q7, q8⟩ := hok rfl
    have HZ1 := Lib.hid (textZ_I q1 q2)
    have HZ2 := Lib.hid (textZ_I q3 q4)
    have HZ3 := Lib.hid (textZ_R q5 q6)
    have HZ4 := Lib.hid (textZ_R q7 q8)
    clear hok e1 e2 q1 q2 q3 q4 q5 q6 q7 q8
    go_wp2_with fail
    change Code.wp Tryd.prog _ _ _ ((((w2.alloc (.cells #[.bool k1, .slice A1 (List.length L1) c1] 25)).alloc (.cells #[.bool k2, .slice A2 (List.length L2) c2] 25)).alloc (.cells #[.bool k3, .slice A3 (List.length L3) c3] 31)).alloc (.cells #[.bool k4, .slice A4 (List.length L4) c4] 31))
    generalize (((w2.alloc (.cells #[.bool k1, .slice A1 (List.length L1) c1] 25)).alloc (.cells #[.bool k2, .slice A2 (List.length L2) c2] 25)).alloc (.cells #[.bool k3, .slice A3 (List.length L3) c3] 31)).alloc (.cells #[.bool k4, .slice A4 (List.length L4) c4] 31) = W at *
    obtain ⟨b0, b1, b2, b3, hsz, hbw⟩ := F
    have HI1 := Lib.hid (I1.up hbw)
    have HI2 := Lib.hid (I2.up hbw)
    have HM1 := Lib.hid (M1.up hbw)
    have HM2 := Lib.hid (M2.up hbw)
    have hWw := hb12.trans (Below.less hbw hb12.size)
    have HWW := Lib.hid hWw
    have HTW := Lib.hid (tab_up HT.out hWw)
    have hy0 := b0.c0
    have hy1 := b0.c1
    have hy2 := b1.c0
    have hy3 := b1.c1
    have hy4 := b2.c0
    have hy5 := b2.c1
    have hy6 := b3.c0
    have hy7 := b3.c1
    have hlt0 : w2.heap.size < W.heap.size := by omega
    have hlt1 : w2.heap.size + 1 < W.heap.size := by omega
    have hlt2 : w2.heap.size + 1 + 1 < W.heap.size := by omega
    have hlt3 : w2.heap.size + 1 + 1 + 1 < W.heap.size := by omega
    have HC := Lib.hid (below_drew (Below.refl W.heap.size W))
    clear b0 b1 b2 b3 hsz hbw I1 I2 M1 M2 hb12 hWw
    have hf0 := hy0
    have hf1 := hy1
    have hf2 := hy2
    have hf3 := hy3
    have hf4 := hy4
    have hf5 := hy5
    have hf6 := hy6
    have hf7 := hy7
    go_region_held3 (fun w' => w'.cell? ⟨w2.heap.size, 0, none⟩ = some (.bool k1) ∧ w'.cell? ⟨w2.heap.size, 1, none⟩ = some (.slice A1 (List.length L1) c1) ∧
        w'.cell? ⟨w2.heap.size + 1, 0, none⟩ = some (.bool k2) ∧ w'.cell? ⟨w2.heap.size + 1, 1, none⟩ = some (.slice A2 (List.length L2) c2) ∧
        w'.cell? ⟨w2.heap.size + 1 + 1, 0, none⟩ = some (.bool k3) ∧ w'.cell? ⟨w2.heap.size + 1 + 1, 1, none⟩ = some (.slice A3 (List.length L3) c3) ∧
        w'.cell? ⟨w2.heap.size + 1 + 1 + 1, 0, none⟩ = some (.bool k4) ∧ w'.cell? ⟨w2.heap.size + 1 + 1 + 1, 1, none⟩ = some (.slice A4 (List.length L4) c4)) (go_keep)
      (first
        | (go_at_call 32; (with_reducible refine (mul_any k1 k2 A1 A2 c1 c2 L1 L2 _ (by omega) (by omega) (HI1.out.up HC.out) (HI2.out.up HC.out)).mono ?_); rintro e w4 ⟨kx, Ax, cx, X, rfl, hix, hzx, hlx, hb4⟩; have HX := Lib.hid hix; have HZX := Lib.hid hzx; clear hix hzx; (try (have HY9 := Lib.hid (RefR.up HY.out hb4); clear HY; have HY := HY9; clear HY9)); have HC9 := Lib.hid (below_then HC.out hb4 HC.out.size); clear HC hf0 hf1 hf2 hf3 hf4 hf5 hf6 hf7; have HC := HC9; clear HC9; have hf0 := (below_atB (i := 0) HC.out hlt0).trans hy0; have hf1 := (below_atB (i := 1) HC.out hlt0).trans hy1; have hf2 := (below_atB (i := 0) HC.out hlt1).trans hy2; have hf3 := (below_atB (i := 1) HC.out hlt1).trans hy3; have hf4 := (below_atB (i := 0) HC.out hlt2).trans hy4; have hf5 := (below_atB (i := 1) HC.out hlt2).trans hy5; have hf6 := (below_atB (i := 0) HC.out hlt3).trans hy6; have hf7 := (below_atB (i := 1) HC.out hlt3).trans hy7; clear hb4)
        | (go_at_call 33; (with_reducible refine (rmulI_any k3 k4 A3 A4 c3 c4 L3 L4 _ (by omega) (by omega) (HM1.out.up HC.out) (HM2.out.up HC.out)).mono ?_); rintro e w4 ⟨ky, Ay, cy, Y, rfl, hiy, hzy, hly, hb4⟩; have HY := Lib.hid hiy; have HZY := Lib.hid hzy; clear hiy hzy; (try (have HX9 := Lib.hid (IntR.up HX.out hb4); clear HX; have HX := HX9; clear HX9)); have HC9 := Lib.hid (below_then HC.out hb4 HC.out.size); clear HC hf0 hf1 hf2 hf3 hf4 hf5 hf6 hf7; have HC := HC9; clear HC9; have hf0 := (below_atB (i := 0) HC.out hlt0).trans hy0; have hf1 := (below_atB (i := 1) HC.out hlt0).trans hy1; have hf2 := (below_atB (i := 0) HC.out hlt1).trans hy2; have hf3 := (below_atB (i := 1) HC.out hlt1).trans hy3; have hf4 := (below_atB (i := 0) HC.out hlt2).trans hy4; have hf5 := (below_atB (i := 1) HC.out hlt2).trans hy5; have hf6 := (below_atB (i := 0) HC.out hlt3).trans hy6; have hf7 := (below_atB (i := 1) HC.out hlt3).trans hy7; clear hb4)
        | (go_at_call 17; (first | (with_reducible refine (same_true kx ky Ax Ay cx cy X Y _ (by omega) (by omega) HX.out HY.out (by rw [HZX.out, HZY.out, HZ1.out, HZ2.out, HZ3.out, HZ4.out]) (tab_up HTW.out HC.out)).mono ?_) | (with_reducible refine (same_true k1 k3 A1 A3 c1 c3 L1 L3 _ (by omega) (by omega) (HI1.out.up HC.out) (HM1.out.up HC.out) (by rw [HZ1.out, HZ3.out]) (tab_up HTW.out HC.out)).mono ?_) | (with_reducible refine (same_true k2 k4 A2 A4 c2 c4 L2 L4 _ (by omega) (by omega) (HI2.out.up HC.out) (HM2.out.up HC.out) (by rw [HZ2.out, HZ4.out]) (tab_up HTW.out HC.out)).mono ?_)); rintro e w4 ⟨rfl, hb4⟩; have HC9 := Lib.hid (below_then HC.out hb4 HC.out.size); clear HC hf0 hf1 hf2 hf3 hf4 hf5 hf6 hf7; have HC := HC9; clear HC9; have hf0 := (below_atB (i := 0) HC.out hlt0).trans hy0; have hf1 := (below_atB (i := 1) HC.out hlt0).trans hy1; have hf2 := (below_atB (i := 0) HC.out hlt1).trans hy2; have hf3 := (below_atB (i := 1) HC.out hlt1).trans hy3; have hf4 := (below_atB (i := 0) HC.out hlt2).trans hy4; have hf5 := (below_atB (i := 1) HC.out hlt2).trans hy5; have hf6 := (below_atB (i := 0) HC.out hlt3).trans hy6; have hf7 := (below_atB (i := 1) HC.out hlt3).trans hy7; clear hb4))
    all_goals
      go_wp2
      go_ret
      exact ⟨rfl, HWW.out.trans (Below.less HC.out HWW.out.size)⟩
end Go.Proofs.YtbfbijokhlkekaaDoor
