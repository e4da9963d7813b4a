/- IntegerQuotients: for every two texts the statement about QuoRem and the reference returns true. -/
import Derived.Test.YtbfbijokhlkekaaDoorU4
namespace Go.Proofs.YtbfbijokhlkekaaDoor
open Go.RowKit

def remZ (x y : Int) : Int := if y = 0 then 0 else Int.tmod x y
def errZ (y : Int) : Int := if y = 0 then 10 else 0
def QrPost (x y : Int) (l : Nat) (w : World) (e : Ending) (w' : World) : Prop := ∃ k1 A1 c1 Q k2 A2 c2 R, e = .returned (.tuple #[.agg #[.bool k1, .slice A1 (List.length Q) c1], .agg #[.bool k2, .slice A2 (List.length R) c2], .int .i64 (errZ y)]) ∧
  IntR w' w'.heap.size k1 A1 c1 Q ∧ IntR w' w'.heap.size k2 A2 c2 R ∧ zI k1 Q = Int.tdiv x y ∧ zI k2 R = remZ x y ∧ List.length Q ≤ l ∧ List.length R ≤ l + 1 ∧ Below w.heap.size w w'
def RqAll (x y : Int) (l : Nat) (w : World) (e : Ending) (w' : World) : Prop := ∃ k1 A1 c1 Q k2 A2 c2 R, e = .returned (.tuple #[.agg #[.bool k1, .slice A1 (List.length Q) c1], .agg #[.bool k2, .slice A2 (List.length R) c2], .int .i64 (errZ y)]) ∧
  RefR w' w'.heap.size k1 A1 c1 Q ∧ RefR w' w'.heap.size k2 A2 c2 R ∧ zR k1 Q = Int.tdiv x y ∧ zR k2 R = remZ x y ∧ List.length Q ≤ l ∧ List.length R ≤ 3 * l + 9 ∧ Below w.heap.size w w'
theorem quoRem_all (n m : Bool) (A A' : Option Addr) (c c' : Nat) (L M : List Nat) (w : World) (hl : L.length ≤ 100000) (hml : M.length ≤ 100000) (hL : IntR w w.heap.size n A c L) (hM : IntR w w.heap.size m A' c' M) :
    Calls Tryd.prog 34 #[.agg #[.bool n, .slice A L.length c], .agg #[.bool m, .slice A' M.length c']] w (QrPost (zI n L) (zI m M) L.length w) := by
  rcases Nat.eq_zero_or_pos M.length with h0 | h0
  · have : M = [] := List.eq_nil_of_length_eq_zero h0
    subst this
    have hm : m = false := by
      cases m
      · rfl
      · exact absurd rfl (hM.sgn rfl)
    subst hm
    have hz : zI false [] = 0 := rfl
    refine (quoRem_zero n false A A' c c' L w).mono fun e w' ⟨he, hb⟩ => ?_
    refine ⟨false, none, 0, [], false, none, 0, [], ?_, IntR.zero _ _ _ _, IntR.zero _ _ _ _, ?_, ?_, Nat.zero_le _, Nat.zero_le _, hb⟩
    · rw [he, hz]; rfl
    · rw [hz, Int.tdiv_zero]
    · rw [hz]; rfl
  · have hy : zI m M ≠ 0 := by
      have := canon_pos hM.canon h0
      unfold zI
      cases m <;> simp only [Bool.false_eq_true, if_false, if_true] <;> omega
    refine (quoRem_pos n m A A' c c' L M w (by omega) (by omega) h0 hL hM).mono fun e w' ⟨k1, A1, c1, Q, k2, A2, c2, R, he, h1, h2, h3, h4, h5, h6, h7⟩ => ?_
    refine ⟨k1, A1, c1, Q, k2, A2, c2, R, ?_, h1, h2, h3, ?_, h5, h6, h7⟩
    · rw [he, errZ, if_neg hy]
    · rw [h4, remZ, if_neg hy]
theorem rquoRem_all (n m : Bool) (A A' : Option Addr) (c c' : Nat) (L M : List Nat) (w : World) (hl : L.length ≤ 100000) (hml : M.length ≤ 100000) (hL : RefR w w.heap.size n A c L) (hM : RefR w w.heap.size m A' c' M) :
    Calls Tryd.prog 35 #[.agg #[.bool n, .slice A L.length c], .agg #[.bool m, .slice A' M.length c']] w (RqAll (zR n L) (zR m M) L.length w) := by
  rcases Nat.eq_zero_or_pos M.length with h0 | h0
  · have : M = [] := List.eq_nil_of_length_eq_zero h0
    subst this
    have hm : m = false := by
      cases m
      · rfl
      · exact absurd rfl (hM.sgn rfl)
    subst hm
    have hz : zR false [] = 0 := rfl
    refine (rquoRem_zero n A A' c c' L w).mono fun e w' ⟨he, hb⟩ => ?_
    refine ⟨false, none, 0, [], false, none, 0, [], ?_, RefR.zero _ _ _ _, RefR.zero _ _ _ _, ?_, ?_, Nat.zero_le _, Nat.zero_le _, hb⟩
    · rw [he, hz]; rfl
    · rw [hz, Int.tdiv_zero]
    · rw [hz]; rfl
  · have hy : zR m M ≠ 0 := by
      have h1 := val4_lt_of_top rfl h0 hM.top
      have h2 : 0 < (10000 : Nat) ^ (M.length - 1) := Nat.pow_pos (by omega)
      unfold zR
      cases m <;> simp only [Bool.false_eq_true, if_false, if_true] <;> omega
    refine (rquoRem_pos n m A A' c c' L M w hl hml h0 hL hM).mono fun e w' ⟨k1, A1, c1, Q, k2, A2, c2, R, he, h1, h2, h3, h4, h5, h6, h7⟩ => ?_
    refine ⟨k1, A1, c1, Q, k2, A2, c2, R, ?_, h1, h2, h3, ?_, h5, h6, h7⟩
    · rw [he, errZ, if_neg hy]
    · rw [h4, remZ, if_neg hy]

set_option maxRecDepth 20000 in
set_option maxHeartbeats 6400000 in
theorem law_quotients (s t : ByteArray) (w : World) (htab : Tab w.heap.size w) :
    Calls Tryd.prog 7 #[.string s, .string t] w fun e w' => e = .returned (.bool true) ∧ Below w.heap.size w w' := by
  have HT := Lib.hid htab
  have HBO := Lib.hid (fun W => both_any s t W)
  clear htab
  go_enter Tryd.func7, Tryd.ntmps7
  go_wp2_with fail
  refine (awake_any w HT.out).mono ?_
  rintro e w1 ⟨rfl, hb1⟩
  go_wp2_with fail
  refine (HBO.out _).mono ?_
  rintro e w2 ⟨k1, A1, c1, L1, k2, A2, c2, L2, k3, A3, c3, L3, k4, A4, c4, L4, ok, rfl, I1, I2, M1, M2, hl1, hl2, hl3, hl4, hok, hb2⟩
  have hb12 := hb1.trans (Below.less hb2 hb1.size)
  clear hb1 hb2
  have F := four_boxes w2 (.bool k1) (.slice A1 (List.length L1) c1) (.bool k2) (.slice A2 (List.length L2) c2) (.bool k3) (.slice A3 (List.length L3) c3) (.bool k4) (.slice A4 (List.length L4) c4) 25 25 31 31
  cases ok
  · have HB12 := Lib.hid hb12
    clear hb12
    go_wp2_with fail
    go_ret
    exact ⟨rfl, HB12.out.trans (Below.less F.2.2.2.2.2 HB12.out.size)⟩
  · obtain ⟨e1, e2, q1, q2, q3, q4, q5, q6, q7, q8⟩ := hok rfl
    have HZ13 : Hid (zI k1 L1 = zR k3 L3) := (textZ_I q1 q2).trans (textZ_R q5 q6).symm
    have HZ24 : Hid (zI k2 L2 = zR k4 L4) := (textZ_I q3 q4).trans (textZ_R q7 q8).symm
    clear hok e1 e2 q1 q2 q3 q4 q5 q6 q7 q8
    go_upto_region 6 with (fail)
    change Code.wp Tryd.prog _ _ _ ((((w2.alloc (.cells #[.bool k1, .slice A1 (List.length L1) c1] 25)).alloc (.cells #[.bool k2, .slice A2 (List.length L2) c2] 25)).alloc (.cells #[.bool k3, .slice A3 (List.length L3) c3] 31)).alloc (.cells #[.bool k4, .slice A4 (List.length L4) c4] 31))
    generalize (((w2.alloc (.cells #[.bool k1, .slice A1 (List.length L1) c1] 25)).alloc (.cells #[.bool k2, .slice A2 (List.length L2) c2] 25)).alloc (.cells #[.bool k3, .slice A3 (List.length L3) c3] 31)).alloc (.cells #[.bool k4, .slice A4 (List.length L4) c4] 31) = V at *
    obtain ⟨b0, b1, b2, b3, hsz, hbw⟩ := F
    have J1 := I1.up hbw
    have J2 := I2.up hbw
    have N1 := M1.up hbw
    have N2 := M2.up hbw
    have HBV := Lib.hid (hb12.trans (Below.less hbw hb12.size))
    have hlt2 : w2.heap.size + 1 + 1 < V.heap.size := by omega
    have hlt3 : w2.heap.size + 1 + 1 + 1 < V.heap.size := by omega
    have x0 := b0.c0
    have x1 := b0.c1
    have x2 := b1.c0
    have x3 := b1.c1
    have B2 := Lib.hid b2
    have B3 := Lib.hid b3
    have HSZ := Lib.hid hsz
    have hqr := quoRem_all k1 k2 A1 A2 c1 c2 L1 L2 V (by omega) (by omega) J1 J2
    have HQR := Lib.hid hqr
    clear b0 b1 b2 b3 hsz hbw hb12 I1 I2 M1 M2 J1 J2 hqr
    go_wp2_with fail
    refine HQR.out.mono ?_
    rintro e w3 ⟨k5, A5, c5, L5, k6, A6, c6, L6, rfl, I5, I6, hz5, hz6, hl5, hl6, hb3⟩
    have X2 := B2.out.below hb3 hlt2
    have X3 := B3.out.below hb3 hlt3
    have N1' := N1.up hb3
    have N2' := N2.up hb3
    have hs3 := hb3.size
    have HB3 := Lib.hid (HBV.out.trans (Below.less hb3 HBV.out.size))
    have F2 := two_boxes w3 (.bool k5) (.slice A5 (List.length L5) c5) (.bool k6) (.slice A6 (List.length L6) c6) 25 25
    have HZ5 := Lib.hid hz5
    have HZ6 := Lib.hid hz6
    have HX2 := Lib.hid X2
    have HX3 := Lib.hid X3
    clear x0 x1 x2 x3 hz5 hz6 hb3 X2 X3 N1 N2 HQR
    go_upto_region 7 with (fail)
    change Code.wp Tryd.prog _ _ _ ((w3.alloc (.cells #[.bool k5, .slice A5 (List.length L5) c5] 25)).alloc (.cells #[.bool k6, .slice A6 (List.length L6) c6] 25))
    generalize (w3.alloc (.cells #[.bool k5, .slice A5 (List.length L5) c5] 25)).alloc (.cells #[.bool k6, .slice A6 (List.length L6) c6] 25) = W at *
    obtain ⟨d0, d1, hsz2, hbw2⟩ := F2
    have Y2 := HX2.out.below hbw2 (by omega)
    have Y3 := HX3.out.below hbw2 (by omega)
    have x4 := Y2.c0
    have x5 := Y2.c1
    have x6 := Y3.c0
    have x7 := Y3.c1
    have K5 := I5.up hbw2
    have K6 := I6.up hbw2
    have HBW := Lib.hid (HB3.out.trans (Below.less hbw2 HB3.out.size))
    have hltd0 : w3.heap.size < W.heap.size := by omega
    have hltd1 : w3.heap.size + 1 < W.heap.size := by omega
    have hrq := rquoRem_all k3 k4 A3 A4 c3 c4 L3 L4 W (by omega) (by omega) (N1'.up hbw2) (N2'.up hbw2)
    rw [← HZ13.out, ← HZ24.out] at hrq
    have HRQ := Lib.hid hrq
    have D0 := Lib.hid d0
    have D1 := Lib.hid d1
    clear d0 d1 hsz2 hbw2 Y2 Y3 I5 I6 N1' N2' HX2 HX3 HB3 hrq HZ13 HZ24 HBV B2 B3
    go_wp2_with fail
    refine HRQ.out.mono ?_
    rintro e w4 ⟨k7, A7, c7, L7, k8, A8, c8, L8, rfl, I7, I8, hz7, hz8, hl7, hl8, hb4⟩
    have heq : (errZ (zI k2 L2) == errZ (zI k2 L2)) = true := by simp
    generalize errZ (zI k2 L2) = er at *
    have E0 := D0.out.below hb4 hltd0
    have E1 := D1.out.below hb4 hltd1
    have K5' := K5.up hb4
    have K6' := K6.up hb4
    have hs4 := hb4.size
    have HB4 := Lib.hid (HBW.out.trans (Below.less hb4 HBW.out.size))
    have F3 := two_boxes w4 (.bool k7) (.slice A7 (List.length L7) c7) (.bool k8) (.slice A8 (List.length L8) c8) 31 31
    have HZ7 := Lib.hid (HZ5.out.trans hz7.symm)
    have HZ8 := Lib.hid (HZ6.out.trans hz8.symm)
    have HE0 := Lib.hid E0
    have HE1 := Lib.hid E1
    clear x4 x5 x6 x7 hz7 hz8 hb4 E0 E1 K5 K6 HZ5 HZ6 HRQ
    go_upto_region 8 with (fail)
    change Code.wp Tryd.prog _ _ _ ((w4.alloc (.cells #[.bool k7, .slice A7 (List.length L7) c7] 31)).alloc (.cells #[.bool k8, .slice A8 (List.length L8) c8] 31))
    generalize (w4.alloc (.cells #[.bool k7, .slice A7 (List.length L7) c7] 31)).alloc (.cells #[.bool k8, .slice A8 (List.length L8) c8] 31) = U at *
    obtain ⟨f0, f1, hsz3, hbw3⟩ := F3
    have G0 := HE0.out.below hbw3 (by omega)
    have G1 := HE1.out.below hbw3 (by omega)
    have HBU := Lib.hid (HB4.out.trans (Below.less hbw3 HB4.out.size))
    have hTU := tab_up HT.out HBU.out
    have s1 := same_true k5 k7 A5 A7 c5 c7 L5 L7 U (by omega) (by omega) (K5'.up hbw3) (I7.up hbw3) HZ7.out hTU
    have K6u := K6'.up hbw3
    have I8u := I8.up hbw3
    have x0 := G0.c0
    have x1 := G0.c1
    have y0 := f0.c0
    have y1 := f0.c1
    have S1 := Lib.hid s1
    have HG1 := Lib.hid G1
    have HF1 := Lib.hid f1
    have HTU := Lib.hid hTU
    have hu0 : w3.heap.size + 1 < U.heap.size := by omega
    have hu1 : w4.heap.size + 1 < U.heap.size := by omega
    clear s1 G0 G1 f0 f1 hTU hsz3 hbw3 K5' K6' I7 I8 HZ7
    go_wp2_with fail
    refine S1.out.mono ?_
    rintro e w5 ⟨rfl, hb5⟩
    have x2 := (HG1.out.below hb5 hu0).c0
    have x3 := (HG1.out.below hb5 hu0).c1
    have y2 := (HF1.out.below hb5 hu1).c0
    have y3 := (HF1.out.below hb5 hu1).c1
    have s2 := same_true k6 k8 A6 A8 c6 c8 L6 L8 w5 (by omega) (by omega) (K6u.up hb5) (I8u.up hb5) HZ8.out (tab_up HTU.out hb5)
    have S2 := Lib.hid s2
    have HB5 := Lib.hid (HBU.out.trans (Below.less hb5 HBU.out.size))
    clear s2 hb5 x0 x1 y0 y1 K6u I8u
    go_wp2_with fail
    refine S2.out.mono ?_
    rintro e w6 ⟨rfl, hb6⟩
    have HB6 := Lib.hid (HB5.out.trans (Below.less hb6 HB5.out.size))
    clear hb6
    go_wp2
    go_ret
    exact ⟨rfl, HB6.out⟩
end Go.Proofs.YtbfbijokhlkekaaDoor
