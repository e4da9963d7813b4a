/- Contracts of the functions that the statement reaches, part 5: what was proved of each, callees first. -/
import Derived.Deep.CutRange
import Derived.Test.YtbfbijokhlkekaaDoorRows
import Derived.ProofKit
import Derived.LaidMore
import Derived.OpenShut
import Derived.Stop.Joined
import Derived.ChangeSame
import Derived.Lib.LaidTab
import Derived.Test.YtbfbijokhlkekaaDoorW4
/- IntegerDivides: for every two texts the statement about quotient and remainder returns true. -/
namespace Go.Proofs.YtbfbijokhlkekaaDoor
open Go.RowKit

/-- Two new boxes. -/
theorem two_boxes (w : World) (x0 y0 x1 y1 : Value) (t0 t1 : TypeId) :
    let W := (w.alloc (.cells #[x0, y0] t0)).alloc (.cells #[x1, y1] t1)
    Box W w.heap.size x0 y0 ∧ Box W (w.heap.size + 1) x1 y1 ∧ W.heap.size = w.heap.size + 2 ∧ Below w.heap.size w W := by
  intro W
  have s1 : (w.alloc (.cells #[x0, y0] t0)).heap.size = w.heap.size + 1 := by simp
  have b0 := Box.new w x0 y0 t0
  have b1 := Box.new (w.alloc (.cells #[x0, y0] t0)) x1 y1 t1
  have a1 := below_alloc_new (w := w.alloc (.cells #[x0, y0] t0)) (.cells #[x1, y1] t1)
  rw [s1] at b1 a1
  exact ⟨b0.below a1 (by omega), b1, by simp [W], below_a2 w _ _⟩
theorem sign_zero' (w : World) : Calls Tryd.prog 15 #[.agg #[.bool false, .slice none 0 0]] w fun e w' => e = .returned (.int .i64 0) ∧ Below w.heap.size w w' := sign_any false none 0 [] w
theorem cmp_neg_abs {x y : Int} (hy : y ≠ 0) : cmpI ((Int.tmod x y).natAbs : Int) (y.natAbs : Int) = -1 := by
  have h1 : (Int.tmod x y).natAbs < y.natAbs := by
    rw [Int.natAbs_tmod]
    exact Nat.mod_lt _ (by omega)
  unfold cmpI
  rw [if_pos (by omega)]
theorem sgn_tmod {x y : Int} (h : Int.tmod x y ≠ 0) : cmpI (Int.tmod x y) 0 = cmpI x 0 := by
  rcases Int.lt_or_le x 0 with hx | hx
  · have h1 : Int.tmod x y ≤ 0 := by
      have e : Int.tmod x y = -(Int.tmod (-x) y) := by rw [Int.neg_tmod]; omega
      have := Int.tmod_nonneg y (show 0 ≤ -x by omega)
      omega
    unfold cmpI
    rw [if_pos (by omega), if_pos hx]
  · have h1 := Int.tmod_nonneg y hx
    have hx0 : x ≠ 0 := by rintro rfl; simp at h
    unfold cmpI
    rw [if_neg (by omega), if_neg (by omega), if_neg (by omega), if_neg (by omega)]

def divFL1 (z1 z2 : Int) : List (Nat × Fact) := [(48, .is (.int .i64 0)), (49, .is (.bool true)), (50, .is (.bool true)), (51, .int (z1) 223), (52, .int (Int.tdiv z1 z2) 223), (53, .int (z2) 223), (54, .int ((Int.tdiv z1 z2) * (z2)) 446), (55, .int (Int.tmod z1 z2) 224), (56, .int (((Int.tdiv z1 z2) * (z2)) + (Int.tmod z1 z2)) 671), (57, .is (.bool true)), (58, .is (.bool true)), (59, .is (.bool true)), (60, .int (Int.tmod z1 z2) 224), (61, .int (((Int.tmod z1 z2).natAbs : Int)) 224), (62, .int (z2) 223), (63, .int (((z2).natAbs : Int)) 223), (64, .is (.int .i64 (-1))), (65, .is (.bool true)), (66, .is (.bool true)), (67, .is (.bool true)), (68, .int (Int.tmod z1 z2) 224), (69, .is (.int .i64 (0))), (70, .is (.bool true)), (71, .is (.bool true)), (72, .is undef), (73, .is undef), (74, .is undef), (75, .is undef), (76, .is undef), (77, .is (.bool true)), (78, .is (.bool true)), (4, .is (.bool true))]
def divFL2 (z1 z2 sr sx : Int) : List (Nat × Fact) := [(48, .is (.int .i64 0)), (49, .is (.bool true)), (50, .is (.bool true)), (51, .int (z1) 223), (52, .int (Int.tdiv z1 z2) 223), (53, .int (z2) 223), (54, .int ((Int.tdiv z1 z2) * (z2)) 446), (55, .int (Int.tmod z1 z2) 224), (56, .int (((Int.tdiv z1 z2) * (z2)) + (Int.tmod z1 z2)) 671), (57, .is (.bool true)), (58, .is (.bool true)), (59, .is (.bool true)), (60, .int (Int.tmod z1 z2) 224), (61, .int (((Int.tmod z1 z2).natAbs : Int)) 224), (62, .int (z2) 223), (63, .int (((z2).natAbs : Int)) 223), (64, .is (.int .i64 (-1))), (65, .is (.bool true)), (66, .is (.bool true)), (67, .is (.bool true)), (68, .int (Int.tmod z1 z2) 224), (69, .is (.int .i64 (sr))), (70, .is (.bool false)), (71, .is (.bool false)), (72, .int (Int.tmod z1 z2) 224), (73, .is (.int .i64 (sx))), (74, .int (z1) 223), (75, .is (.int .i64 (sx))), (76, .is (.bool true)), (77, .is (.bool true)), (78, .is (.bool true)), (4, .is (.bool true))]

set_option maxRecDepth 20000 in
set_option maxHeartbeats 6400000 in
theorem law_divides (s t : ByteArray) (w : World) (htab : Tab w.heap.size w) :
    Calls Tryd.prog 9 #[.string s, .string t] w fun e w' => e = .returned (.bool true) ∧ Below w.heap.size w w' := by
  have HT := Lib.hid htab
  have HBO := Lib.hid (fun W => both_any s t W)
  clear htab
  go_enter Tryd.func9, Tryd.ntmps9
  go_wp2_with fail
  refine (awake_any w HT.out).mono ?_
  rintro e w1 ⟨rfl, hb1⟩
  go_wp2_with fail
  refine (HBO.out _).mono ?_
  rintro e w2 ⟨k1, A1, c1, L1, k2, A2, c2, L2, k3, A3, c3, L3, k4, A4, c4, L4, ok, rfl, I1, I2, -, -, hl1, hl2, -, -, -, hb2⟩
  have hb12 := hb1.trans (Below.less hb2 hb1.size)
  clear hb1 hb2
  have F := four_boxes w2 (.bool k1) (.slice A1 (List.length L1) c1) (.bool k2) (.slice A2 (List.length L2) c2) (.bool k3) (.slice A3 (List.length L3) c3) (.bool k4) (.slice A4 (List.length L4) c4) 25 25 31 31
  cases ok
  · have HB := Lib.hid hb12
    clear hb12
    go_wp2_with fail
    go_ret
    exact ⟨rfl, HB.out.trans (Below.less F.2.2.2.2.2 HB.out.size)⟩
  · go_upto_region 6 with (fail)
    change Code.wp Tryd.prog _ _ _ ((((w2.alloc (.cells #[.bool k1, .slice A1 (List.length L1) c1] 25)).alloc (.cells #[.bool k2, .slice A2 (List.length L2) c2] 25)).alloc (.cells #[.bool k3, .slice A3 (List.length L3) c3] 31)).alloc (.cells #[.bool k4, .slice A4 (List.length L4) c4] 31))
    generalize (((w2.alloc (.cells #[.bool k1, .slice A1 (List.length L1) c1] 25)).alloc (.cells #[.bool k2, .slice A2 (List.length L2) c2] 25)).alloc (.cells #[.bool k3, .slice A3 (List.length L3) c3] 31)).alloc (.cells #[.bool k4, .slice A4 (List.length L4) c4] 31) = V at *
    obtain ⟨b0, b1, -, -, hsz, hbw⟩ := F
    have J1 := I1.up hbw
    have J2 := I2.up hbw
    have hbV := hb12.trans (Below.less hbw hb12.size)
    clear I1 I2 hb12 hbw
    have x0 := b0.c0
    have x1 := b0.c1
    have x2 := b1.c0
    have x3 := b1.c1
    rcases Nat.eq_zero_or_pos (List.length L2) with h0 | hpos
    · have hL2 : L2 = [] := List.eq_nil_of_length_eq_zero h0
      subst hL2
      have hk2 : k2 = false := by
        cases k2
        · rfl
        · exact absurd rfl (J2.sgn rfl)
      subst hk2
      have HB := Lib.hid hbV
      have B0 := Lib.hid b0
      have B1 := Lib.hid b1
      have HSZ := Lib.hid hsz
      clear hbV b0 b1 hsz h0
      go_wp2_with fail
      refine (quoRem_zero k1 false A1 A2 c1 c2 L1 V).mono ?_
      rintro e w3 ⟨rfl, hb3⟩
      have HB3 := Lib.hid (HB.out.trans (Below.less hb3 HB.out.size))
      have X2 := Lib.hid (B1.out.below hb3 (by have := HSZ.out; omega))
      have F2 := two_boxes w3 (.bool false) (.slice none 0 0) (.bool false) (.slice none 0 0) 25 25
      have hlt9 := hb3.size
      clear x0 x1 x2 x3 hb3
      go_upto_region 7 with (fail)
      change Code.wp Tryd.prog _ _ _ ((w3.alloc (.cells #[.bool false, .slice none 0 0] 25)).alloc (.cells #[.bool false, .slice none 0 0] 25))
      generalize (w3.alloc (.cells #[.bool false, .slice none 0 0] 25)).alloc (.cells #[.bool false, .slice none 0 0] 25) = W at *
      obtain ⟨c0, c1', hsz3, hbw3⟩ := F2
      have hx2 := X2.out.below hbw3 (by have := HSZ.out; omega)
      have HBW := Lib.hid (HB3.out.trans (Below.less hbw3 HB3.out.size))
      have hw0 : w2.heap.size + 1 < W.heap.size := by have := HSZ.out; omega
      have hw1 : w3.heap.size < W.heap.size := by omega
      have hw2 : w3.heap.size + 1 < W.heap.size := by omega
      have y0 := hx2.c0
      have y1 := hx2.c1
      have HX2 := Lib.hid hx2
      have C0 := Lib.hid c0
      have C1 := Lib.hid c1'
      clear hbw3 hsz3 hlt9 hx2 c0 c1'
      go_wp2_with fail
      refine (sign_any false A2 c2 [] W).mono ?_
      rintro e w4 ⟨rfl, hb4⟩
      have y2 := (C0.out.below hb4 hw1).c0
      have y3 := (C0.out.below hb4 hw1).c1
      have y4 := (C1.out.below hb4 hw2).c0
      have y5 := (C1.out.below hb4 hw2).c1
      have hs0 : (sgnI false [] == 0) = true := rfl
      have HC := Lib.hid hb4
      clear y0 y1 hb4
      go_wp2_with fail
      refine (sign_zero' w4).mono ?_
      rintro e w5 ⟨rfl, hb5⟩
      have HC9 := Lib.hid (below_then HC.out hb5 HC.out.size)
      clear HC y2 y3 y4 y5 hb5
      have HC := HC9
      clear HC9
      have y4 := (C1.out.below HC.out hw2).c0
      have y5 := (C1.out.below HC.out hw2).c1
      go_wp2_with fail
      refine (sign_zero' w5).mono ?_
      rintro e w6 ⟨rfl, hb6⟩
      have HC9 := Lib.hid (below_then HC.out hb6 HC.out.size)
      clear hb6 y4 y5
      go_wp2
      go_ret
      exact ⟨rfl, HBW.out.trans (Below.less HC9.out HBW.out.size)⟩
    · have hy : zI k2 L2 ≠ 0 := by
        have := canon_pos J2.canon hpos
        unfold zI
        cases k2 <;> simp only [Bool.false_eq_true, if_false, if_true] <;> omega
      have hsg : (sgnI k2 L2 == 0) = false := by
        rw [beq_eq_false_iff_ne]
        unfold sgnI
        cases k2
        · rw [if_neg (by simp), if_neg (by omega)]; omega
        · simp
      have HB := Lib.hid hbV
      have B0 := Lib.hid b0
      have B1 := Lib.hid b1
      have HSZ := Lib.hid hsz
      have hqr := quoRem_pos k1 k2 A1 A2 c1 c2 L1 L2 V (by omega) (by omega) hpos J1 J2
      have HQR := Lib.hid hqr
      have HSG := Lib.hid hsg
      clear hbV b0 b1 hsz hqr hsg
      go_wp2_with fail
      refine HQR.out.mono ?_
      rintro e w3 ⟨k5, A5, c5, L5, k6, A6, c6, L6, rfl, I5, I6, hz5, hz6, hl5, hl6, hb3⟩
      have X1 := B0.out.below hb3 (by have := HSZ.out; omega)
      have X2 := B1.out.below hb3 (by have := HSZ.out; omega)
      have J1' := J1.up hb3
      have J2' := J2.up hb3
      have HB3 := Lib.hid (HB.out.trans (Below.less hb3 HB.out.size))
      have F2 := two_boxes w3 (.bool k5) (.slice A5 (List.length L5) c5) (.bool k6) (.slice A6 (List.length L6) c6) 25 25
      have hlt9 := hb3.size
      have HX1 := Lib.hid X1
      have HX2 := Lib.hid X2
      have HZ5 := Lib.hid hz5
      have HZ6 := Lib.hid hz6
      clear x0 x1 x2 x3 hb3 X1 X2 hz5 hz6
      go_upto_region 7 with (fail)
      change Code.wp Tryd.prog _ _ _ ((w3.alloc (.cells #[.bool k5, .slice A5 (List.length L5) c5] 25)).alloc (.cells #[.bool k6, .slice A6 (List.length L6) c6] 25))
      generalize (w3.alloc (.cells #[.bool k5, .slice A5 (List.length L5) c5] 25)).alloc (.cells #[.bool k6, .slice A6 (List.length L6) c6] 25) = W at *
      obtain ⟨x2, x3, hsz3, hbw3⟩ := F2
      have x0 := HX1.out.below hbw3 (by have := HSZ.out; omega)
      have x1 := HX2.out.below hbw3 (by have := HSZ.out; omega)
      have HWW := Lib.hid (HB3.out.trans (Below.less hbw3 HB3.out.size))
      have HTW := Lib.hid (tab_up HT.out HWW.out)
      have p1 : PInt (zI k1 L1) 223 (.agg #[.bool k1, .slice A1 (List.length L1) c1]) W := ⟨_, _, _, _, rfl, J1'.up hbw3, rfl, hl1⟩
      have p2 : PInt (zI k2 L2) 223 (.agg #[.bool k2, .slice A2 (List.length L2) c2]) W := ⟨_, _, _, _, rfl, J2'.up hbw3, rfl, hl2⟩
      have p3 : PInt (Int.tdiv (zI k1 L1) (zI k2 L2)) 223 (.agg #[.bool k5, .slice A5 (List.length L5) c5]) W := ⟨_, _, _, _, rfl, I5.up hbw3, HZ5.out, by omega⟩
      have p4 : PInt (Int.tmod (zI k1 L1) (zI k2 L2)) 224 (.agg #[.bool k6, .slice A6 (List.length L6) c6]) W := ⟨_, _, _, _, rfl, I6.up hbw3, HZ6.out, by omega⟩
      have hlt0 : w2.heap.size < W.heap.size := by have := HSZ.out; omega
      have hlt1 : w2.heap.size + 1 < W.heap.size := by have := HSZ.out; omega
      have hlt2 : w3.heap.size < W.heap.size := by omega
      have hlt3 : w3.heap.size + 1 < W.heap.size := by omega
      have HC := Lib.hid (Below.refl W.heap.size W)
      have hsy := sign_any k2 A2 c2 L2 W
      have HSY := Lib.hid hsy
      clear hbw3 hsz3 hlt9 J1 J2 J1' J2' I5 I6 hl1 hl2 hl5 hl6 HX1 HX2 HZ5 HZ6 HQR B0 B1 hsy hpos
      have y0 := x1.c0
      have y1 := x1.c1
      go_wp2_with fail
      refine HSY.out.mono ?_
      rintro e w4 ⟨rfl, hb4⟩
      have hsg := HSG.out
      have HC9 := Lib.hid hb4
      clear HC y0 y1 hb4
      have HC := HC9
      clear HC9
      go_wp2_with fail
      have EQ := Lib.hid (show Int.tdiv (zI k1 L1) (zI k2 L2) * zI k2 L2 + Int.tmod (zI k1 L1) (zI k2 L2) = zI k1 L1 by rw [Int.mul_comm]; exact Int.mul_tdiv_add_tmod _ _)
      have CMA := Lib.hid (cmp_neg_abs (x := zI k1 L1) hy)
      clear hsg HSG HSY hy
      generalize zI k1 L1 = z1 at *
      generalize zI k2 L2 = z2 at *
      generalize List.length L1 = n1 at *
      generalize List.length L2 = n2 at *
      generalize List.length L5 = n5 at *
      generalize List.length L6 = n6 at *
      generalize sgnI k2 L2 = sy at *
      by_cases hr : Int.tmod z1 z2 = 0
      · have SR := Lib.hid (show cmpI (Int.tmod z1 z2) 0 = 0 by rw [hr]; rfl)
        clear hr
        refine region_facts (divFL1 z1 z2) (fun w' => Below W.heap.size W w') [[], [48], [49], [50], [50], [50], [50, 52, 53], [50], [50, 54, 55], [50, 51, 56], [50, 57], [58], [59], [59, 60], [59], [59, 62], [59, 61, 63], [59, 64], [59, 65], [66], [67], [67, 68], [67, 69], [67, 70], [71], [71], [71], [71], [71], [67, 71, 76], [67, 77], [78]] (fun u => by simp only [divFL1, temps, List.map_cons, List.map_nil, fillL, List.setIfInBounds_toArray, List.set_cons_zero, List.set_cons_succ]; rfl) (by kernel_rfl) (by kernel_rfl) (by kernel_rfl) (below_drew HC.out) ?_ ?_
        · refine StepsFr.cons ?_ ?_
          · intro u w hJ hF K hK
            clear hF
            go_simp
            exact hK.out _ _ hJ (Below.refl _ _) (rfl)
          refine StepsFr.cons ?_ ?_
          · intro u w hJ hF K hK
            have h48 : u 48 = .int .i64 0 := facts_get hF 48 (by simp)
            clear hF
            simp only [h48] at hK ⊢
            clear h48
            go_simp
            exact hK.out _ _ hJ (Below.refl _ _) rfl
          refine StepsFr.cons ?_ ?_
          · intro u w hJ hF K hK
            have h49 : u 49 = .bool true := facts_get hF 49 (by simp)
            clear hF
            simp only [h49] at hK ⊢
            clear h49
            go_simp
            exact hK.out _ _ hJ (Below.refl _ _) (rfl)
          refine StepsFr.cons ?_ ?_
          · intro u w hJ hF K hK
            have h50 : u 50 = .bool true := facts_get hF 50 (by simp)
            clear hF
            simp only [h50] at hK ⊢
            clear h50
            have hf0 := (below_atB (i := 0) hJ hlt0).trans x0.c0
            have hf1 := (below_atB (i := 1) hJ hlt0).trans x0.c1
            go_simp
            exact hK.out _ _ hJ (Below.refl _ _) (p1.up hJ)
          refine StepsFr.cons ?_ ?_
          · intro u w hJ hF K hK
            have h50 : u 50 = .bool true := facts_get hF 50 (by simp)
            clear hF
            simp only [h50] at hK ⊢
            clear h50
            have hf4 := (below_atB (i := 0) hJ hlt2).trans x2.c0
            have hf5 := (below_atB (i := 1) hJ hlt2).trans x2.c1
            go_simp
            exact hK.out _ _ hJ (Below.refl _ _) (p3.up hJ)
          refine StepsFr.cons ?_ ?_
          · intro u w hJ hF K hK
            have h50 : u 50 = .bool true := facts_get hF 50 (by simp)
            clear hF
            simp only [h50] at hK ⊢
            clear h50
            have hf2 := (below_atB (i := 0) hJ hlt1).trans x1.c0
            have hf3 := (below_atB (i := 1) hJ hlt1).trans x1.c1
            go_simp
            exact hK.out _ _ hJ (Below.refl _ _) (p2.up hJ)
          refine StepsFr.cons ?_ ?_
          · intro u w hJ hF K hK
            have h50 : u 50 = .bool true := facts_get hF 50 (by simp)
            have h52 : PInt (Int.tdiv z1 z2) 223 (u 52) w := facts_get hF 52 (by simp)
            have h53 : PInt (z2) 223 (u 53) w := facts_get hF 53 (by simp)
            clear hF
            simp only [h50] at hK ⊢
            clear h50
            go_simp
            refine (mul_fact h52 h53 (by omega) (by omega)).mono ?_
            rintro e w' ⟨v, rfl, hv, hb⟩
            exact hK.out _ _ (below_then hJ hb hJ.size) hb (hv)
          refine StepsFr.cons ?_ ?_
          · intro u w hJ hF K hK
            have h50 : u 50 = .bool true := facts_get hF 50 (by simp)
            clear hF
            simp only [h50] at hK ⊢
            clear h50
            have hf6 := (below_atB (i := 0) hJ hlt3).trans x3.c0
            have hf7 := (below_atB (i := 1) hJ hlt3).trans x3.c1
            go_simp
            exact hK.out _ _ hJ (Below.refl _ _) (p4.up hJ)
          refine StepsFr.cons ?_ ?_
          · intro u w hJ hF K hK
            have h50 : u 50 = .bool true := facts_get hF 50 (by simp)
            have h54 : PInt ((Int.tdiv z1 z2) * (z2)) 446 (u 54) w := facts_get hF 54 (by simp)
            have h55 : PInt (Int.tmod z1 z2) 224 (u 55) w := facts_get hF 55 (by simp)
            clear hF
            simp only [h50] at hK ⊢
            clear h50
            go_simp
            refine (add_fact h54 h55 (by omega) (by omega)).mono ?_
            rintro e w' ⟨v, rfl, hv, hb⟩
            exact hK.out _ _ (below_then hJ hb hJ.size) hb (hv)
          refine StepsFr.cons ?_ ?_
          · intro u w hJ hF K hK
            have h50 : u 50 = .bool true := facts_get hF 50 (by simp)
            have h51 : PInt (z1) 223 (u 51) w := facts_get hF 51 (by simp)
            have h56 : PInt (((Int.tdiv z1 z2) * (z2)) + (Int.tmod z1 z2)) 671 (u 56) w := facts_get hF 56 (by simp)
            clear hF
            simp only [h50] at hK ⊢
            clear h50
            go_simp
            refine (equal_fact h51 h56 (by omega) (by omega) ((EQ.out).symm) (tab_up HTW.out hJ)).mono ?_
            rintro e w' ⟨rfl, hb⟩
            exact hK.out _ _ (below_then hJ hb hJ.size) hb (rfl)
          refine StepsFr.cons ?_ ?_
          · intro u w hJ hF K hK
            have h50 : u 50 = .bool true := facts_get hF 50 (by simp)
            have h57 : u 57 = .bool true := facts_get hF 57 (by simp)
            clear hF
            simp only [h50, h57] at hK ⊢
            clear h50 h57
            go_simp
            exact hK.out _ _ hJ (Below.refl _ _) rfl
          refine StepsFr.cons ?_ ?_
          · intro u w hJ hF K hK
            have h58 : u 58 = .bool true := facts_get hF 58 (by simp)
            clear hF
            simp only [h58] at hK ⊢
            clear h58
            go_simp
            exact hK.out _ _ hJ (Below.refl _ _) (rfl)
          refine StepsFr.cons ?_ ?_
          · intro u w hJ hF K hK
            have h59 : u 59 = .bool true := facts_get hF 59 (by simp)
            clear hF
            simp only [h59] at hK ⊢
            clear h59
            have hf6 := (below_atB (i := 0) hJ hlt3).trans x3.c0
            have hf7 := (below_atB (i := 1) hJ hlt3).trans x3.c1
            go_simp
            exact hK.out _ _ hJ (Below.refl _ _) (p4.up hJ)
          refine StepsFr.cons ?_ ?_
          · intro u w hJ hF K hK
            have h59 : u 59 = .bool true := facts_get hF 59 (by simp)
            have h60 : PInt (Int.tmod z1 z2) 224 (u 60) w := facts_get hF 60 (by simp)
            clear hF
            simp only [h59] at hK ⊢
            clear h59
            go_simp
            refine (abs_fact h60 (by omega)).mono ?_
            rintro e w' ⟨v, rfl, hv, hb⟩
            exact hK.out _ _ (below_then hJ hb hJ.size) hb (hv)
          refine StepsFr.cons ?_ ?_
          · intro u w hJ hF K hK
            have h59 : u 59 = .bool true := facts_get hF 59 (by simp)
            clear hF
            simp only [h59] at hK ⊢
            clear h59
            have hf2 := (below_atB (i := 0) hJ hlt1).trans x1.c0
            have hf3 := (below_atB (i := 1) hJ hlt1).trans x1.c1
            go_simp
            exact hK.out _ _ hJ (Below.refl _ _) (p2.up hJ)
          refine StepsFr.cons ?_ ?_
          · intro u w hJ hF K hK
            have h59 : u 59 = .bool true := facts_get hF 59 (by simp)
            have h62 : PInt (z2) 223 (u 62) w := facts_get hF 62 (by simp)
            clear hF
            simp only [h59] at hK ⊢
            clear h59
            go_simp
            refine (abs_fact h62 (by omega)).mono ?_
            rintro e w' ⟨v, rfl, hv, hb⟩
            exact hK.out _ _ (below_then hJ hb hJ.size) hb (hv)
          refine StepsFr.cons ?_ ?_
          · intro u w hJ hF K hK
            have h59 : u 59 = .bool true := facts_get hF 59 (by simp)
            have h61 : PInt (((Int.tmod z1 z2).natAbs : Int)) 224 (u 61) w := facts_get hF 61 (by simp)
            have h63 : PInt (((z2).natAbs : Int)) 223 (u 63) w := facts_get hF 63 (by simp)
            clear hF
            simp only [h59] at hK ⊢
            clear h59
            go_simp
            refine (cmp_is h61 h63 (by omega) (by omega) (CMA.out)).mono ?_
            rintro e w' ⟨rfl, hb⟩
            exact hK.out _ _ (below_then hJ hb hJ.size) hb (rfl)
          refine StepsFr.cons ?_ ?_
          · intro u w hJ hF K hK
            have h59 : u 59 = .bool true := facts_get hF 59 (by simp)
            have h64 : u 64 = .int .i64 (-1) := facts_get hF 64 (by simp)
            clear hF
            simp only [h59, h64] at hK ⊢
            clear h59 h64
            go_simp
            exact hK.out _ _ hJ (Below.refl _ _) rfl
          refine StepsFr.cons ?_ ?_
          · intro u w hJ hF K hK
            have h59 : u 59 = .bool true := facts_get hF 59 (by simp)
            have h65 : u 65 = .bool true := facts_get hF 65 (by simp)
            clear hF
            simp only [h59, h65] at hK ⊢
            clear h59 h65
            go_simp
            exact hK.out _ _ hJ (Below.refl _ _) rfl
          refine StepsFr.cons ?_ ?_
          · intro u w hJ hF K hK
            have h66 : u 66 = .bool true := facts_get hF 66 (by simp)
            clear hF
            simp only [h66] at hK ⊢
            clear h66
            go_simp
            exact hK.out _ _ hJ (Below.refl _ _) (rfl)
          refine StepsFr.cons ?_ ?_
          · intro u w hJ hF K hK
            have h67 : u 67 = .bool true := facts_get hF 67 (by simp)
            clear hF
            simp only [h67] at hK ⊢
            clear h67
            have hf6 := (below_atB (i := 0) hJ hlt3).trans x3.c0
            have hf7 := (below_atB (i := 1) hJ hlt3).trans x3.c1
            go_simp
            exact hK.out _ _ hJ (Below.refl _ _) (p4.up hJ)
          refine StepsFr.cons ?_ ?_
          · intro u w hJ hF K hK
            have h67 : u 67 = .bool true := facts_get hF 67 (by simp)
            have h68 : PInt (Int.tmod z1 z2) 224 (u 68) w := facts_get hF 68 (by simp)
            clear hF
            simp only [h67] at hK ⊢
            clear h67
            go_simp
            refine (sign_is h68 (SR.out)).mono ?_
            rintro e w' ⟨rfl, hb⟩
            exact hK.out _ _ (below_then hJ hb hJ.size) hb (rfl)
          refine StepsFr.cons ?_ ?_
          · intro u w hJ hF K hK
            have h67 : u 67 = .bool true := facts_get hF 67 (by simp)
            have h69 : u 69 = .int .i64 (0) := facts_get hF 69 (by simp)
            clear hF
            simp only [h67, h69] at hK ⊢
            clear h67 h69
            go_simp
            exact hK.out _ _ hJ (Below.refl _ _) rfl
          refine StepsFr.cons ?_ ?_
          · intro u w hJ hF K hK
            have h67 : u 67 = .bool true := facts_get hF 67 (by simp)
            have h70 : u 70 = .bool true := facts_get hF 70 (by simp)
            clear hF
            simp only [h67, h70] at hK ⊢
            clear h67 h70
            go_simp
            exact hK.out _ _ hJ (Below.refl _ _) (rfl)
          refine StepsFr.cons ?_ ?_
          · intro u w hJ hF K hK
            have h71 : u 71 = .bool true := facts_get hF 71 (by simp)
            clear hF
            simp only [h71] at hK ⊢
            clear h71
            go_simp
            exact hK.out _ _ hJ (Below.refl _ _) rfl
          refine StepsFr.cons ?_ ?_
          · intro u w hJ hF K hK
            have h71 : u 71 = .bool true := facts_get hF 71 (by simp)
            clear hF
            simp only [h71] at hK ⊢
            clear h71
            go_simp
            exact hK.out _ _ hJ (Below.refl _ _) rfl
          refine StepsFr.cons ?_ ?_
          · intro u w hJ hF K hK
            have h71 : u 71 = .bool true := facts_get hF 71 (by simp)
            clear hF
            simp only [h71] at hK ⊢
            clear h71
            go_simp
            exact hK.out _ _ hJ (Below.refl _ _) rfl
          refine StepsFr.cons ?_ ?_
          · intro u w hJ hF K hK
            have h71 : u 71 = .bool true := facts_get hF 71 (by simp)
            clear hF
            simp only [h71] at hK ⊢
            clear h71
            go_simp
            exact hK.out _ _ hJ (Below.refl _ _) rfl
          refine StepsFr.cons ?_ ?_
          · intro u w hJ hF K hK
            have h71 : u 71 = .bool true := facts_get hF 71 (by simp)
            clear hF
            simp only [h71] at hK ⊢
            clear h71
            go_simp
            exact hK.out _ _ hJ (Below.refl _ _) rfl
          refine StepsFr.cons ?_ ?_
          · intro u w hJ hF K hK
            have h67 : u 67 = .bool true := facts_get hF 67 (by simp)
            have h71 : u 71 = .bool true := facts_get hF 71 (by simp)
            have h76 : u 76 = undef := facts_get hF 76 (by simp)
            clear hF
            simp only [h67, h71, h76] at hK ⊢
            clear h67 h71 h76
            go_simp
            exact hK.out _ _ hJ (Below.refl _ _) rfl
          refine StepsFr.cons ?_ ?_
          · intro u w hJ hF K hK
            have h67 : u 67 = .bool true := facts_get hF 67 (by simp)
            have h77 : u 77 = .bool true := facts_get hF 77 (by simp)
            clear hF
            simp only [h67, h77] at hK ⊢
            clear h67 h77
            go_simp
            exact hK.out _ _ hJ (Below.refl _ _) rfl
          refine StepsFr.cons ?_ ?_
          · intro u w hJ hF K hK
            have h78 : u 78 = .bool true := facts_get hF 78 (by simp)
            clear hF
            simp only [h78] at hK ⊢
            clear h78
            go_simp
            exact hK.out _ _ hJ (Below.refl _ _) (rfl)
          exact StepsFr.nil
        · intro u w9 hJ9 hF
          have h4 : u 4 = .bool true := facts_get hF 4 (by simp [divFL1, temps])
          clear hF
          go_wp2
          go_ret
          exact ⟨by first | rfl | (show Ending.returned (u 4) = _; rw [h4]), HWW.out.trans (Below.less hJ9 HWW.out.size)⟩
      · have SR := Lib.hid (show cmpI (Int.tmod z1 z2) 0 = cmpI (Int.tmod z1 z2) 0 from rfl)
        have hsr : (cmpI (Int.tmod z1 z2) 0 == 0) = false := by rw [beq_eq_false_iff_ne]; unfold cmpI; (repeat' split) <;> omega
        have SR2 := Lib.hid (sgn_tmod hr)
        have SX := Lib.hid (show cmpI z1 0 = cmpI z1 0 from rfl)
        obtain ⟨sr, hsr2⟩ : ∃ sr, sr = cmpI (Int.tmod z1 z2) 0 := ⟨_, rfl⟩
        obtain ⟨sx, hsx2⟩ : ∃ sx, sx = cmpI z1 0 := ⟨_, rfl⟩
        have SR3 : Hid (cmpI (Int.tmod z1 z2) 0 = sr) := hsr2.symm
        have SR4 : Hid (cmpI (Int.tmod z1 z2) 0 = sx) := by show _ = _; rw [hsx2]; exact SR2.out
        have SX3 : Hid (cmpI z1 0 = sx) := hsx2.symm
        rw [← hsr2] at hsr
        clear hr SR SR2 SX hsr2 hsx2
        have SR := SR3
        have SR2 := SR4
        have SX := SX3
        clear SR3 SR4 SX3
        refine region_facts (divFL2 z1 z2 sr sx) (fun w' => Below W.heap.size W w') [[], [48], [49], [50], [50], [50], [50, 52, 53], [50], [50, 54, 55], [50, 51, 56], [50, 57], [58], [59], [59, 60], [59], [59, 62], [59, 61, 63], [59, 64], [59, 65], [66], [67], [67, 68], [67, 69], [67, 70], [71], [71, 72], [71], [71, 74], [71, 73, 75], [67, 71, 76], [67, 77], [78]] (fun u => by simp only [divFL2, temps, List.map_cons, List.map_nil, fillL, List.setIfInBounds_toArray, List.set_cons_zero, List.set_cons_succ]; rfl) (by kernel_rfl) (by kernel_rfl) (by kernel_rfl) (below_drew HC.out) ?_ ?_
        · refine StepsFr.cons ?_ ?_
          · intro u w hJ hF K hK
            clear hF
            go_simp
            exact hK.out _ _ hJ (Below.refl _ _) (rfl)
          refine StepsFr.cons ?_ ?_
          · intro u w hJ hF K hK
            have h48 : u 48 = .int .i64 0 := facts_get hF 48 (by simp)
            clear hF
            simp only [h48] at hK ⊢
            clear h48
            go_simp
            exact hK.out _ _ hJ (Below.refl _ _) rfl
          refine StepsFr.cons ?_ ?_
          · intro u w hJ hF K hK
            have h49 : u 49 = .bool true := facts_get hF 49 (by simp)
            clear hF
            simp only [h49] at hK ⊢
            clear h49
            go_simp
            exact hK.out _ _ hJ (Below.refl _ _) (rfl)
          refine StepsFr.cons ?_ ?_
          · intro u w hJ hF K hK
            have h50 : u 50 = .bool true := facts_get hF 50 (by simp)
            clear hF
            simp only [h50] at hK ⊢
            clear h50
            have hf0 := (below_atB (i := 0) hJ hlt0).trans x0.c0
            have hf1 := (below_atB (i := 1) hJ hlt0).trans x0.c1
            go_simp
            exact hK.out _ _ hJ (Below.refl _ _) (p1.up hJ)
          refine StepsFr.cons ?_ ?_
          · intro u w hJ hF K hK
            have h50 : u 50 = .bool true := facts_get hF 50 (by simp)
            clear hF
            simp only [h50] at hK ⊢
            clear h50
            have hf4 := (below_atB (i := 0) hJ hlt2).trans x2.c0
            have hf5 := (below_atB (i := 1) hJ hlt2).trans x2.c1
            go_simp
            exact hK.out _ _ hJ (Below.refl _ _) (p3.up hJ)
          refine StepsFr.cons ?_ ?_
          · intro u w hJ hF K hK
            have h50 : u 50 = .bool true := facts_get hF 50 (by simp)
            clear hF
            simp only [h50] at hK ⊢
            clear h50
            have hf2 := (below_atB (i := 0) hJ hlt1).trans x1.c0
            have hf3 := (below_atB (i := 1) hJ hlt1).trans x1.c1
            go_simp
            exact hK.out _ _ hJ (Below.refl _ _) (p2.up hJ)
          refine StepsFr.cons ?_ ?_
          · intro u w hJ hF K hK
            have h50 : u 50 = .bool true := facts_get hF 50 (by simp)
            have h52 : PInt (Int.tdiv z1 z2) 223 (u 52) w := facts_get hF 52 (by simp)
            have h53 : PInt (z2) 223 (u 53) w := facts_get hF 53 (by simp)
            clear hF
            simp only [h50] at hK ⊢
            clear h50
            go_simp
            refine (mul_fact h52 h53 (by omega) (by omega)).mono ?_
            rintro e w' ⟨v, rfl, hv, hb⟩
            exact hK.out _ _ (below_then hJ hb hJ.size) hb (hv)
          refine StepsFr.cons ?_ ?_
          · intro u w hJ hF K hK
            have h50 : u 50 = .bool true := facts_get hF 50 (by simp)
            clear hF
            simp only [h50] at hK ⊢
            clear h50
            have hf6 := (below_atB (i := 0) hJ hlt3).trans x3.c0
            have hf7 := (below_atB (i := 1) hJ hlt3).trans x3.c1
            go_simp
            exact hK.out _ _ hJ (Below.refl _ _) (p4.up hJ)
          refine StepsFr.cons ?_ ?_
          · intro u w hJ hF K hK
            have h50 : u 50 = .bool true := facts_get hF 50 (by simp)
            have h54 : PInt ((Int.tdiv z1 z2) * (z2)) 446 (u 54) w := facts_get hF 54 (by simp)
            have h55 : PInt (Int.tmod z1 z2) 224 (u 55) w := facts_get hF 55 (by simp)
            clear hF
            simp only [h50] at hK ⊢
            clear h50
            go_simp
            refine (add_fact h54 h55 (by omega) (by omega)).mono ?_
            rintro e w' ⟨v, rfl, hv, hb⟩
            exact hK.out _ _ (below_then hJ hb hJ.size) hb (hv)
          refine StepsFr.cons ?_ ?_
          · intro u w hJ hF K hK
            have h50 : u 50 = .bool true := facts_get hF 50 (by simp)
            have h51 : PInt (z1) 223 (u 51) w := facts_get hF 51 (by simp)
            have h56 : PInt (((Int.tdiv z1 z2) * (z2)) + (Int.tmod z1 z2)) 671 (u 56) w := facts_get hF 56 (by simp)
            clear hF
            simp only [h50] at hK ⊢
            clear h50
            go_simp
            refine (equal_fact h51 h56 (by omega) (by omega) ((EQ.out).symm) (tab_up HTW.out hJ)).mono ?_
            rintro e w' ⟨rfl, hb⟩
            exact hK.out _ _ (below_then hJ hb hJ.size) hb (rfl)
          refine StepsFr.cons ?_ ?_
          · intro u w hJ hF K hK
            have h50 : u 50 = .bool true := facts_get hF 50 (by simp)
            have h57 : u 57 = .bool true := facts_get hF 57 (by simp)
            clear hF
            simp only [h50, h57] at hK ⊢
            clear h50 h57
            go_simp
            exact hK.out _ _ hJ (Below.refl _ _) rfl
          refine StepsFr.cons ?_ ?_
          · intro u w hJ hF K hK
            have h58 : u 58 = .bool true := facts_get hF 58 (by simp)
            clear hF
            simp only [h58] at hK ⊢
            clear h58
            go_simp
            exact hK.out _ _ hJ (Below.refl _ _) (rfl)
          refine StepsFr.cons ?_ ?_
          · intro u w hJ hF K hK
            have h59 : u 59 = .bool true := facts_get hF 59 (by simp)
            clear hF
            simp only [h59] at hK ⊢
            clear h59
            have hf6 := (below_atB (i := 0) hJ hlt3).trans x3.c0
            have hf7 := (below_atB (i := 1) hJ hlt3).trans x3.c1
            go_simp
            exact hK.out _ _ hJ (Below.refl _ _) (p4.up hJ)
          refine StepsFr.cons ?_ ?_
          · intro u w hJ hF K hK
            have h59 : u 59 = .bool true := facts_get hF 59 (by simp)
            have h60 : PInt (Int.tmod z1 z2) 224 (u 60) w := facts_get hF 60 (by simp)
            clear hF
            simp only [h59] at hK ⊢
            clear h59
            go_simp
            refine (abs_fact h60 (by omega)).mono ?_
            rintro e w' ⟨v, rfl, hv, hb⟩
            exact hK.out _ _ (below_then hJ hb hJ.size) hb (hv)
          refine StepsFr.cons ?_ ?_
          · intro u w hJ hF K hK
            have h59 : u 59 = .bool true := facts_get hF 59 (by simp)
            clear hF
            simp only [h59] at hK ⊢
            clear h59
            have hf2 := (below_atB (i := 0) hJ hlt1).trans x1.c0
            have hf3 := (below_atB (i := 1) hJ hlt1).trans x1.c1
            go_simp
            exact hK.out _ _ hJ (Below.refl _ _) (p2.up hJ)
          refine StepsFr.cons ?_ ?_
          · intro u w hJ hF K hK
            have h59 : u 59 = .bool true := facts_get hF 59 (by simp)
            have h62 : PInt (z2) 223 (u 62) w := facts_get hF 62 (by simp)
            clear hF
            simp only [h59] at hK ⊢
            clear h59
            go_simp
            refine (abs_fact h62 (by omega)).mono ?_
            rintro e w' ⟨v, rfl, hv, hb⟩
            exact hK.out _ _ (below_then hJ hb hJ.size) hb (hv)
          refine StepsFr.cons ?_ ?_
          · intro u w hJ hF K hK
            have h59 : u 59 = .bool true := facts_get hF 59 (by simp)
            have h61 : PInt (((Int.tmod z1 z2).natAbs : Int)) 224 (u 61) w := facts_get hF 61 (by simp)
            have h63 : PInt (((z2).natAbs : Int)) 223 (u 63) w := facts_get hF 63 (by simp)
            clear hF
            simp only [h59] at hK ⊢
            clear h59
            go_simp
            refine (cmp_is h61 h63 (by omega) (by omega) (CMA.out)).mono ?_
            rintro e w' ⟨rfl, hb⟩
            exact hK.out _ _ (below_then hJ hb hJ.size) hb (rfl)
          refine StepsFr.cons ?_ ?_
          · intro u w hJ hF K hK
            have h59 : u 59 = .bool true := facts_get hF 59 (by simp)
            have h64 : u 64 = .int .i64 (-1) := facts_get hF 64 (by simp)
            clear hF
            simp only [h59, h64] at hK ⊢
            clear h59 h64
            go_simp
            exact hK.out _ _ hJ (Below.refl _ _) rfl
          refine StepsFr.cons ?_ ?_
          · intro u w hJ hF K hK
            have h59 : u 59 = .bool true := facts_get hF 59 (by simp)
            have h65 : u 65 = .bool true := facts_get hF 65 (by simp)
            clear hF
            simp only [h59, h65] at hK ⊢
            clear h59 h65
            go_simp
            exact hK.out _ _ hJ (Below.refl _ _) rfl
          refine StepsFr.cons ?_ ?_
          · intro u w hJ hF K hK
            have h66 : u 66 = .bool true := facts_get hF 66 (by simp)
            clear hF
            simp only [h66] at hK ⊢
            clear h66
            go_simp
            exact hK.out _ _ hJ (Below.refl _ _) (rfl)
          refine StepsFr.cons ?_ ?_
          · intro u w hJ hF K hK
            have h67 : u 67 = .bool true := facts_get hF 67 (by simp)
            clear hF
            simp only [h67] at hK ⊢
            clear h67
            have hf6 := (below_atB (i := 0) hJ hlt3).trans x3.c0
            have hf7 := (below_atB (i := 1) hJ hlt3).trans x3.c1
            go_simp
            exact hK.out _ _ hJ (Below.refl _ _) (p4.up hJ)
          refine StepsFr.cons ?_ ?_
          · intro u w hJ hF K hK
            have h67 : u 67 = .bool true := facts_get hF 67 (by simp)
            have h68 : PInt (Int.tmod z1 z2) 224 (u 68) w := facts_get hF 68 (by simp)
            clear hF
            simp only [h67] at hK ⊢
            clear h67
            go_simp
            refine (sign_is h68 (SR.out)).mono ?_
            rintro e w' ⟨rfl, hb⟩
            exact hK.out _ _ (below_then hJ hb hJ.size) hb (rfl)
          refine StepsFr.cons ?_ ?_
          · intro u w hJ hF K hK
            have h67 : u 67 = .bool true := facts_get hF 67 (by simp)
            have h69 : u 69 = .int .i64 (sr) := facts_get hF 69 (by simp)
            clear hF
            simp only [h67, h69] at hK ⊢
            clear h67 h69
            go_simp
            exact hK.out _ _ hJ (Below.refl _ _) rfl
          refine StepsFr.cons ?_ ?_
          · intro u w hJ hF K hK
            have h67 : u 67 = .bool true := facts_get hF 67 (by simp)
            have h70 : u 70 = .bool false := facts_get hF 70 (by simp)
            clear hF
            simp only [h67, h70] at hK ⊢
            clear h67 h70
            go_simp
            exact hK.out _ _ hJ (Below.refl _ _) (rfl)
          refine StepsFr.cons ?_ ?_
          · intro u w hJ hF K hK
            have h71 : u 71 = .bool false := facts_get hF 71 (by simp)
            clear hF
            simp only [h71] at hK ⊢
            clear h71
            have hf6 := (below_atB (i := 0) hJ hlt3).trans x3.c0
            have hf7 := (below_atB (i := 1) hJ hlt3).trans x3.c1
            go_simp
            exact hK.out _ _ hJ (Below.refl _ _) (p4.up hJ)
          refine StepsFr.cons ?_ ?_
          · intro u w hJ hF K hK
            have h71 : u 71 = .bool false := facts_get hF 71 (by simp)
            have h72 : PInt (Int.tmod z1 z2) 224 (u 72) w := facts_get hF 72 (by simp)
            clear hF
            simp only [h71] at hK ⊢
            clear h71
            go_simp
            refine (sign_is h72 (SR2.out)).mono ?_
            rintro e w' ⟨rfl, hb⟩
            exact hK.out _ _ (below_then hJ hb hJ.size) hb (rfl)
          refine StepsFr.cons ?_ ?_
          · intro u w hJ hF K hK
            have h71 : u 71 = .bool false := facts_get hF 71 (by simp)
            clear hF
            simp only [h71] at hK ⊢
            clear h71
            have hf0 := (below_atB (i := 0) hJ hlt0).trans x0.c0
            have hf1 := (below_atB (i := 1) hJ hlt0).trans x0.c1
            go_simp
            exact hK.out _ _ hJ (Below.refl _ _) (p1.up hJ)
          refine StepsFr.cons ?_ ?_
          · intro u w hJ hF K hK
            have h71 : u 71 = .bool false := facts_get hF 71 (by simp)
            have h74 : PInt (z1) 223 (u 74) w := facts_get hF 74 (by simp)
            clear hF
            simp only [h71] at hK ⊢
            clear h71
            go_simp
            refine (sign_is h74 (SX.out)).mono ?_
            rintro e w' ⟨rfl, hb⟩
            exact hK.out _ _ (below_then hJ hb hJ.size) hb (rfl)
          refine StepsFr.cons ?_ ?_
          · intro u w hJ hF K hK
            have h71 : u 71 = .bool false := facts_get hF 71 (by simp)
            have h73 : u 73 = .int .i64 (sx) := facts_get hF 73 (by simp)
            have h75 : u 75 = .int .i64 (sx) := facts_get hF 75 (by simp)
            clear hF
            simp only [h71, h73, h75] at hK ⊢
            clear h71 h73 h75
            go_simp
            exact hK.out _ _ hJ (Below.refl _ _) rfl
          refine StepsFr.cons ?_ ?_
          · intro u w hJ hF K hK
            have h67 : u 67 = .bool true := facts_get hF 67 (by simp)
            have h71 : u 71 = .bool false := facts_get hF 71 (by simp)
            have h76 : u 76 = .bool true := facts_get hF 76 (by simp)
            clear hF
            simp only [h67, h71, h76] at hK ⊢
            clear h67 h71 h76
            go_simp
            exact hK.out _ _ hJ (Below.refl _ _) rfl
          refine StepsFr.cons ?_ ?_
          · intro u w hJ hF K hK
            have h67 : u 67 = .bool true := facts_get hF 67 (by simp)
            have h77 : u 77 = .bool true := facts_get hF 77 (by simp)
            clear hF
            simp only [h67, h77] at hK ⊢
            clear h67 h77
            go_simp
            exact hK.out _ _ hJ (Below.refl _ _) rfl
          refine StepsFr.cons ?_ ?_
          · intro u w hJ hF K hK
            have h78 : u 78 = .bool true := facts_get hF 78 (by simp)
            clear hF
            simp only [h78] at hK ⊢
            clear h78
            go_simp
            exact hK.out _ _ hJ (Below.refl _ _) (rfl)
          exact StepsFr.nil
        · intro u w9 hJ9 hF
          have h4 : u 4 = .bool true := facts_get hF 4 (by simp [divFL2, temps])
          clear hF
          go_wp2
          go_ret
          exact ⟨by first | rfl | (show Ending.returned (u 4) = _; rw [h4]), HWW.out.trans (Below.less hJ9 HWW.out.size)⟩
end Go.Proofs.YtbfbijokhlkekaaDoor

/- What the rows' condition on listed variables gives; a step of every row's proof. -/
namespace Go.Proofs.YtbfbijokhlkekaaDoor
open Go.ChangeShapes Go.WideShapes Go.ChangeAt Go.WideMaps Go.WideElems Go.RowKit

theorem own : ownKnob Tryd.prog.godebug = none := by kernel_rfl
/-- The list of the listed variables. -/
abbrev laidL : List (String × DataW Unit) := [("math/bits.deBruijn32tab", Rows.laid_math_bits_deBruijn32tab), ("math/bits.deBruijn64tab", Rows.laid_math_bits_deBruijn64tab), ("internal/strconv.uint64pow10", Rows.laid_internal_strconv_uint64pow10)]
theorem door_met (os : Os) (args : Array Value) : laidMetH Tryd.prog laidL ((World.doorLaid Tryd.prog 400 os).forCall (fun _ _ => 0) ⟨#[], args, []⟩).memory :=
  laidMetH_of_parts3 (fuel := 8) (laidMet_of_run' 8 (by kernel_rfl) (by kernel_rfl)) (by kernel_rfl) (by kernel_rfl)

theorem pow_is : Rows.laid_internal_strconv_uint64pow10 (H := Unit) = Lib.tabData .u64 Lib.pow10Tab := by kernel_rfl
theorem tab_of_laid {W : World} (h : laidMetH Tryd.prog laidL W) : Tab W.heap.size W := by
  rw [MakeChecks.laidMetH_plain _ _ _ (by kernel_rfl)] at h
  obtain ⟨ps, ⟨g0, t0, cs0, f0, p0, q0, hg0, ht0, hv0, hd0, ⟨g1, t1, cs1, f1, p1, q1, hg1, ht1, hv1, hd1, ⟨g2, t2, cs2, f2, p2, q2, hg2, ht2, hv2, hd2, _, _⟩, _⟩, _⟩, _, _⟩ := h
  have hg : Tryd.prog.globalNamed "internal/strconv.uint64pow10" = some g2 := hg2
  have hgg : Tryd.prog.globalNamed "internal/strconv.uint64pow10" = some 0 := by kernel_rfl
  have hty : (Tryd.prog.globals[0]?).map (·.type) = some 104 := by kernel_rfl
  obtain rfl := Option.some.inj (hgg.symm.trans hg2)
  obtain rfl := Option.some.inj (hty.symm.trans ht2)
  refine Lib.tabBelow_of_tabIs ?_
  unfold Lib.TabIs
  rw [hv2]
  rw [pow_is] at hd2
  rw [← Lib.cells_of_tab Tryd.underlying104 Tryd.underlying67 (by kernel_rfl) (by kernel_rfl) hd2]

/-- The last step of a row whose call makes memory and leaves the old memory as it was. -/
theorem post_below {H : Type} {enc : TypeId × Value → H} {P : Program} {f : Func} {s : ChangeSpec} {ap fr ho ag : Bool} {W W' : World} {args : Array Value} {v : Value} {ds gs : List (DataW H)} {before pa pv : List MemPlace}
    (hW : DataW.Whole enc P f.params.toList s.vars ap W args.toList ds gs before)
    (hres : ∀ (b : Nat) (sp : Nat → Bool) (hd : Bool), DataW.TrodAll enc P W' b sp hd f.resultTypes.toList (v.resultList f.resultTypes.size) (s.fn H (ds ++ gs)).results [])
    (hargs : ∀ sp : Nat → Bool, (∀ p ∈ before, sp p.block = true) → DataW.TrodAll enc P W' 0 sp true f.params.toList args.toList (s.fn H (ds ++ gs)).args pa)
    (hvars : ∀ sp : Nat → Bool, (∀ p ∈ before, sp p.block = true) → DataW.TrodVars enc P W' sp s.vars (s.fn H (ds ++ gs)).vars pv)
    (hps : before = pa ++ pv) (hb : Below W.heap.size W W')
    (hok : ∀ (j : Nat) (t : TypeId) (r : Value), f.resultTypes[j]? = some t → (v.resultList f.resultTypes.size)[j]? = some r → Value.okWide P W' .any 0 t r) : s.post enc P f ap fr ho ag W args v W' := by
  have hlt : ∀ p ∈ before, p.block < W.heap.size := fun p hp => hW.lt p hp
  have hin : ∀ p ∈ before, (fun b => decide (b < W.heap.size)) p.block = true := fun p hp => by simpa using hlt p hp
  refine ⟨ds, gs, before, [], pa, pv, hW, hres _ _ _, hargs _ hin, hvars _ hin, World.keptBut_mono (fun p hp => ⟨hp, .inr (List.mem_append.1 (hps ▸ hp))⟩) (hb.frame (· ∈ before)), fun _ => ?_⟩
  obtain ⟨_, _, _, _, _, hz, hn⟩ := hW
  refine ⟨hok, _, _, ([] ++ pa) ++ pv, ⟨[] ++ pa, pv, trodAll_append (hargs _ (fun _ _ => rfl)) (hres _ _ _), hvars _ (fun _ _ => rfl), rfl, fun b off hp => ?_, fun ha => ?_⟩, ?_⟩
  · have hbe : MemPlace.cell b off ∈ before := by rw [hps]; simpa using hp
    rw [hb.frozen (hlt _ hbe)]
    exact hz b off hbe
  · have h9 := hn ha
    rw [hps] at h9
    simpa using h9
  · intro p hp _
    rw [hps, ← List.nil_append pa]
    exact hp
end Go.Proofs.YtbfbijokhlkekaaDoor
