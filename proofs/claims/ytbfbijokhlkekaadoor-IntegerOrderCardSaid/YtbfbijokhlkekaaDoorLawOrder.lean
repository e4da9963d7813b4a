/- IntegerOrder: for every three texts the statement about the order returns true. -/
import Derived.Test.YtbfbijokhlkekaaDoorK3
import Derived.Deep.CutRange
namespace Go.Proofs.YtbfbijokhlkekaaDoor
open Go.RowKit

/-- The eight boxes of two calls of 'both' in one function, the other ones' cells left out. -/
theorem cmp_swap (x y : Int) : cmpI y x = -cmpI x y := by unfold cmpI; (repeat' split) <;> omega
theorem cmp_self (x : Int) : cmpI x x = 0 := by unfold cmpI; simp
theorem cmp_shift (x y z : Int) : cmpI (x + z) (y + z) = cmpI x y := by unfold cmpI; (repeat' split) <;> omega

def ordFLA (z1 z2 z3 cc : Int) : List (Nat × Fact) := [(66, .int z1 223), (67, .int z3 223), (68, .int (z1 + z3) 447), (69, .int z2 223), (70, .int z3 223), (71, .int (z2 + z3) 447), (72, .is (.int .i64 (cmpI (z1 + z3) (z2 + z3)))), (73, .is (.int .i64 cc)), (74, .is (Value.bool true)), (75, .is (Value.bool true)), (76, .is (.int .i64 cc)), (77, .is (Value.bool true)), (78, .is (Value.bool true)), (79, .is undef), (80, .is undef), (81, .is undef), (82, .is undef), (83, .is (Value.bool true)), (84, .is (Value.bool true)), (85, .is undef), (86, .is undef), (87, .is undef), (88, .is undef), (89, .is (Value.bool true)), (90, .is (Value.bool true)), (6, .is (Value.bool true))]
def ordFLB (z1 z2 z3 cc : Int) : List (Nat × Fact) := [(66, .int z1 223), (67, .int z3 223), (68, .int (z1 + z3) 447), (69, .int z2 223), (70, .int z3 223), (71, .int (z2 + z3) 447), (72, .is (.int .i64 (cmpI (z1 + z3) (z2 + z3)))), (73, .is (.int .i64 cc)), (74, .is (Value.bool true)), (75, .is (Value.bool true)), (76, .is (.int .i64 cc)), (77, .is (Value.bool false)), (78, .is (Value.bool false)), (79, .int z2 223), (80, .int z3 223), (81, .is (.int .i64 (cmpI z2 z3))), (82, .is (Value.bool true)), (83, .is (Value.bool true)), (84, .is (Value.bool true)), (85, .is undef), (86, .is undef), (87, .is undef), (88, .is undef), (89, .is (Value.bool true)), (90, .is (Value.bool true)), (6, .is (Value.bool true))]
def ordFLC (z1 z2 z3 cc : Int) : List (Nat × Fact) := [(66, .int z1 223), (67, .int z3 223), (68, .int (z1 + z3) 447), (69, .int z2 223), (70, .int z3 223), (71, .int (z2 + z3) 447), (72, .is (.int .i64 (cmpI (z1 + z3) (z2 + z3)))), (73, .is (.int .i64 cc)), (74, .is (Value.bool true)), (75, .is (Value.bool true)), (76, .is (.int .i64 cc)), (77, .is (Value.bool false)), (78, .is (Value.bool false)), (79, .int z2 223), (80, .int z3 223), (81, .is (.int .i64 (cmpI z2 z3))), (82, .is (Value.bool false)), (83, .is (Value.bool false)), (84, .is (Value.bool false)), (85, .int z1 223), (86, .int z3 223), (87, .is (.int .i64 (cmpI z1 z3))), (88, .is (Value.bool true)), (89, .is (Value.bool true)), (90, .is (Value.bool true)), (6, .is (Value.bool true))]

set_option maxRecDepth 20000 in
set_option maxHeartbeats 6400000 in
theorem law_order (s t u : ByteArray) (w : World) (htab : Tab w.heap.size w) :
    Calls Tryd.prog 11 #[.string s, .string t, .string u] w fun e w' => e = .returned (.bool true) ∧ Below w.heap.size w w' := by
  have HT := Lib.hid htab
  have HBO := Lib.hid (fun W => both_any s t W)
  have HBU := Lib.hid (fun W => both_any u ⟨#[48]⟩ W)
  clear htab
  go_enter Tryd.func11, Tryd.ntmps11
  go_wp2_with fail
  refine (awake_any w HT.out).mono ?_
  rintro e w1 ⟨rfl, hb1⟩
  go_wp2_with fail
  refine (HBO.out _).mono ?_
  rintro e w2 ⟨k1, A1, c1, L1, k2, A2, c2, L2, k3, A3, c3, L3, k4, A4, c4, L4, ok, rfl, I1, I2, -, -, hl1, hl2, -, -, -, hb2⟩
  have hb12 := hb1.trans (Below.less hb2 hb1.size)
  clear hb1 hb2
  have F := four_boxes w2 (.bool k1) (.slice A1 (List.length L1) c1) (.bool k2) (.slice A2 (List.length L2) c2) (.bool k3) (.slice A3 (List.length L3) c3) (.bool k4) (.slice A4 (List.length L4) c4) 25 25 31 31
  go_wp2_with fail
  change Calls Tryd.prog 22 #[.string u, .string ⟨#[48]⟩] ((((w2.alloc (.cells #[.bool k1, .slice A1 (List.length L1) c1] 25)).alloc (.cells #[.bool k2, .slice A2 (List.length L2) c2] 25)).alloc (.cells #[.bool k3, .slice A3 (List.length L3) c3] 31)).alloc (.cells #[.bool k4, .slice A4 (List.length L4) c4] 31)) _
  generalize (((w2.alloc (.cells #[.bool k1, .slice A1 (List.length L1) c1] 25)).alloc (.cells #[.bool k2, .slice A2 (List.length L2) c2] 25)).alloc (.cells #[.bool k3, .slice A3 (List.length L3) c3] 31)).alloc (.cells #[.bool k4, .slice A4 (List.length L4) c4] 31) = V at *
  obtain ⟨b0, b1, -, -, hsz, hbw⟩ := F
  have hbV := hb12.trans (Below.less hbw hb12.size)
  have J1 := I1.up hbw
  have J2 := I2.up hbw
  clear hb12 hbw I1 I2
  refine (HBU.out _).mono ?_
  rintro e w3 ⟨k5, A5, c5, L5, k6, A6, c6, L6, k7, A7, c7, L7, k8, A8, c8, L8, ok2, rfl, I5, -, -, -, hl5, -, -, -, -, hb3⟩
  have hb13 := hbV.trans (Below.less hb3 hbV.size)
  have J1' := J1.up hb3
  have J2' := J2.up hb3
  have x0 := b0.below hb3 (by omega)
  have x1 := b1.below hb3 (by omega)
  have hsz3 := hb3.size
  clear b0 b1 J1 J2 hb3 hbV
  have F := four_boxes w3 (.bool k5) (.slice A5 (List.length L5) c5) (.bool k6) (.slice A6 (List.length L6) c6) (.bool k7) (.slice A7 (List.length L7) c7) (.bool k8) (.slice A8 (List.length L8) c8) 25 25 31 31
  rw [hsz] at hsz3
  clear hsz
  cases ok
  · have HB := Lib.hid hb13
    have HX0 := Lib.hid x0
    have HX1 := Lib.hid x1
    clear hb13 x0 x1
    go_wp2_with fail
    go_ret
    exact ⟨rfl, HB.out.trans (Below.less F.2.2.2.2.2 HB.out.size)⟩
  · cases ok2
    · have HB := Lib.hid hb13
      have HX0 := Lib.hid x0
      have HX1 := Lib.hid x1
      clear hb13 x0 x1
      go_wp2_with fail
      go_ret
      exact ⟨rfl, HB.out.trans (Below.less F.2.2.2.2.2 HB.out.size)⟩
    · have HB := Lib.hid hb13
      have HX0 := Lib.hid x0
      have HX1 := Lib.hid x1
      clear hb13 x0 x1
      go_upto_region 7 with (fail)
      change Code.wp Tryd.prog _ _ _ ((((w3.alloc (.cells #[.bool k5, .slice A5 (List.length L5) c5] 25)).alloc (.cells #[.bool k6, .slice A6 (List.length L6) c6] 25)).alloc (.cells #[.bool k7, .slice A7 (List.length L7) c7] 31)).alloc (.cells #[.bool k8, .slice A8 (List.length L8) c8] 31))
      generalize (((w3.alloc (.cells #[.bool k5, .slice A5 (List.length L5) c5] 25)).alloc (.cells #[.bool k6, .slice A6 (List.length L6) c6] 25)).alloc (.cells #[.bool k7, .slice A7 (List.length L7) c7] 31)).alloc (.cells #[.bool k8, .slice A8 (List.length L8) c8] 31) = W at *
      obtain ⟨b2, -, -, -, hsz, hbw⟩ := F
      have x0 := HX0.out.below hbw (by omega)
      have x1 := HX1.out.below hbw (by omega)
      have I1 := J1'.up hbw
      have I2 := J2'.up hbw
      have I3 := I5.up hbw
      have hbW := HB.out.trans (Below.less hbw HB.out.size)
      clear HB HX0 HX1 J1' J2' I5 hbw
      have HWW := Lib.hid hbW
      have HTW := Lib.hid (tab_up HT.out hbW)
      have p1 : PInt (zI k1 L1) 223 (.agg #[.bool k1, .slice A1 (List.length L1) c1]) W := ⟨_, _, _, _, rfl, I1, rfl, hl1⟩
      have p2 : PInt (zI k2 L2) 223 (.agg #[.bool k2, .slice A2 (List.length L2) c2]) W := ⟨_, _, _, _, rfl, I2, rfl, hl2⟩
      have p3 : PInt (zI k5 L5) 223 (.agg #[.bool k5, .slice A5 (List.length L5) c5]) W := ⟨_, _, _, _, rfl, I3, rfl, hl5⟩
      have hlt0 : w2.heap.size < W.heap.size := by omega
      have hlt1 : w2.heap.size + 1 < W.heap.size := by omega
      have hlt2 : w3.heap.size < W.heap.size := by omega
      clear hbW I1 I2 I3 hsz hl1 hl2 hl5
      generalize zI k1 L1 = z1 at *
      generalize zI k2 L2 = z2 at *
      generalize zI k5 L5 = z3 at *
      generalize List.length L1 = n1 at *
      generalize List.length L2 = n2 at *
      generalize List.length L5 = n3 at *
      generalize hg0 : w2.heap.size = g0 at *
      generalize hg2 : w3.heap.size = g2 at *
      have e1 : (cmpI z1 z2 != cmpI (z1 - z2) 0) = false := by rw [cmp_diff]; simp
      have e2 : (cmpI z2 z1 != -cmpI z1 z2) = false := by rw [cmp_swap z1 z2]; simp
      have e3 : (cmpI z1 z1 != 0) = false := by rw [cmp_self]; rfl
      have e4 : (cmpI (z1 + z3) (z2 + z3) == cmpI z1 z2) = true := by rw [cmp_shift]; simp
      have e5 : ¬ 0 < cmpI z1 z2 → ¬ 0 < cmpI z2 z3 → cmpI z1 z3 ≤ 0 := by unfold cmpI; (repeat' split) <;> omega
      have hr : ∀ x y : Int, -1 ≤ cmpI x y ∧ cmpI x y ≤ 1 := by intro x y; unfold cmpI; (repeat' split) <;> omega
      have hcc1 := (hr z1 z2).1
      have hcc2 := (hr z1 z2).2
      generalize hc : cmpI z1 z2 = cc at *
      have HCC := Lib.hid hc
      clear hc
      have E4 := Lib.hid e4
      have E5 := Lib.hid e5
      have HR := Lib.hid hr
      clear e4 e5 hr hg0 hg2
      have hcm := cmp_fact p1 p2 (by omega) (by omega)
      rw [HCC.out] at hcm
      have HCM := Lib.hid hcm
      clear hcm
      have HC := Lib.hid (Below.refl W.heap.size W)
      have hf0 := (below_atB (i := 0) HC.out hlt0).trans x0.c0
      have hf1 := (below_atB (i := 1) HC.out hlt0).trans x0.c1
      have hf2 := (below_atB (i := 0) HC.out hlt1).trans x1.c0
      have hf3 := (below_atB (i := 1) HC.out hlt1).trans x1.c1
      go_wp2_with fail
      refine (HCM.out).mono ?_
      rintro e w4 ⟨rfl, hb⟩
      have HC9 := Lib.hid (below_then HC.out hb HC.out.size)
      clear HC hf0 hf1 hf2 hf3
      have HC := HC9
      clear HC9
      have HB9 := Lib.hid hb
      clear hb
      have hf0 := (below_atB (i := 0) HC.out hlt0).trans x0.c0
      have hf1 := (below_atB (i := 1) HC.out hlt0).trans x0.c1
      have hf2 := (below_atB (i := 0) HC.out hlt1).trans x1.c0
      have hf3 := (below_atB (i := 1) HC.out hlt1).trans x1.c1
      go_wp2_with fail
      refine (sub_fact (p1.up HC.out) (p2.up HC.out) (by omega) (by omega)).mono ?_
      rintro e w5 ⟨v, rfl, hv, hb⟩
      have HC9 := Lib.hid (below_then HC.out hb HC.out.size)
      clear HC hf0 hf1 hf2 hf3
      have HC := HC9
      clear HC9
      have HB9 := Lib.hid hb
      clear hb
      have hf0 := (below_atB (i := 0) HC.out hlt0).trans x0.c0
      have hf1 := (below_atB (i := 1) HC.out hlt0).trans x0.c1
      have hf2 := (below_atB (i := 0) HC.out hlt1).trans x1.c0
      have hf3 := (below_atB (i := 1) HC.out hlt1).trans x1.c1
      go_wp2_with fail
      refine (sign_fact (hv)).mono ?_
      rintro e w6 ⟨rfl, hb⟩
      have HC9 := Lib.hid (below_then HC.out hb HC.out.size)
      clear HC hf0 hf1 hf2 hf3
      have HC := HC9
      clear HC9
      have HB9 := Lib.hid hb
      clear hb
      have hf0 := (below_atB (i := 0) HC.out hlt0).trans x0.c0
      have hf1 := (below_atB (i := 1) HC.out hlt0).trans x0.c1
      have hf2 := (below_atB (i := 0) HC.out hlt1).trans x1.c0
      have hf3 := (below_atB (i := 1) HC.out hlt1).trans x1.c1
      go_wp2_with fail
      refine (cmp_fact (p2.up HC.out) (p1.up HC.out) (by omega) (by omega)).mono ?_
      rintro e w7 ⟨rfl, hb⟩
      have HC9 := Lib.hid (below_then HC.out hb HC.out.size)
      clear HC hf0 hf1 hf2 hf3
      have HC := HC9
      clear HC9
      have HB9 := Lib.hid hb
      clear hb
      have hf0 := (below_atB (i := 0) HC.out hlt0).trans x0.c0
      have hf1 := (below_atB (i := 1) HC.out hlt0).trans x0.c1
      have hf2 := (below_atB (i := 0) HC.out hlt1).trans x1.c0
      have hf3 := (below_atB (i := 1) HC.out hlt1).trans x1.c1
      go_wp2_with fail
      refine (cmp_fact (p1.up HC.out) (p1.up HC.out) (by omega) (by omega)).mono ?_
      rintro e w8 ⟨rfl, hb⟩
      have HC9 := Lib.hid (below_then HC.out hb HC.out.size)
      clear HC hf0 hf1 hf2 hf3
      have HC := HC9
      clear HC9
      have HB9 := Lib.hid hb
      clear hb
      have hf0 := (below_atB (i := 0) HC.out hlt0).trans x0.c0
      have hf1 := (below_atB (i := 1) HC.out hlt0).trans x0.c1
      have hf2 := (below_atB (i := 0) HC.out hlt1).trans x1.c0
      have hf3 := (below_atB (i := 1) HC.out hlt1).trans x1.c1
      go_wp2_with fail
      have HE := Lib.hid HC.out
      have hx0 := Lib.hid (x0.below HC.out hlt0)
      have hx1 := Lib.hid (x1.below HC.out hlt1)
      have hx2 := Lib.hid (b2.below HC.out hlt2)
      have q1 := Lib.hid (p1.up HC.out)
      have q2 := Lib.hid (p2.up HC.out)
      have q3 := Lib.hid (p3.up HC.out)
      have hsW := HC.out.size
      clear x0 x1 b2 p1 p2 p3 hf0 hf1 hf2 hf3 HC
      have x0 := hx0.out
      have x1 := hx1.out
      have b2 := hx2.out
      have p1 := q1.out
      have p2 := q2.out
      have p3 := q3.out
      clear hx0 hx1 hx2 q1 q2 q3
      have hlt0 : g0 < w8.heap.size := by omega
      have hlt1 : g0 + 1 < w8.heap.size := by omega
      have hlt2 : g2 < w8.heap.size := by omega
      have hbW := HWW.out.trans (Below.less HE.out HWW.out.size)
      have HBW := Lib.hid hbW
      have HC := Lib.hid (Below.refl w8.heap.size w8)
      clear hbW hsW
      by_cases hc1 : 0 < cc
      · have hd1 : decide (0 < cc) = true := by simpa using hc1
        refine region_facts (ordFLA z1 z2 z3 cc) (fun w' => Below w8.heap.size w8 w') [[], [], [66, 67], [], [], [69, 70], [68, 71], [], [72, 73], [74], [75], [75, 76], [75, 77], [78], [78], [78], [78], [75, 78, 82], [75, 83], [84], [84], [84], [84], [75, 84, 88], [75, 89], [90]] (fun u => by simp only [ordFLA, temps, List.map_cons, List.map_nil, fillL, List.setIfInBounds_toArray, List.set_cons_zero, List.set_cons_succ]; rfl) (by kernel_rfl) (by kernel_rfl) (by kernel_rfl) (below_drew HC.out) ?_ ?_
        · refine StepsFr.cons ?_ ?_
          · intro u w hJ hF K hK
            clear hF
            have hf0 := (below_atB (i := 0) hJ hlt0).trans x0.c0
            have hf1 := (below_atB (i := 1) hJ hlt0).trans x0.c1
            go_simp
            exact hK.out _ _ hJ (Below.refl _ _) (p1.up hJ)
          refine StepsFr.cons ?_ ?_
          · intro u w hJ hF K hK
            clear hF
            have hf4 := (below_atB (i := 0) hJ hlt2).trans b2.c0
            have hf5 := (below_atB (i := 1) hJ hlt2).trans b2.c1
            go_simp
            exact hK.out _ _ hJ (Below.refl _ _) (p3.up hJ)
          refine StepsFr.cons ?_ ?_
          · intro u w hJ hF K hK
            have h66 : PInt z1 223 (u 66) w := facts_get hF 66 (by simp)
            have h67 : PInt z3 223 (u 67) w := facts_get hF 67 (by simp)
            clear hF
            go_simp
            refine (add_fact h66 h67 (by omega) (by omega)).mono ?_
            rintro e w' ⟨v, rfl, hv, hb⟩
            exact hK.out _ _ (below_then hJ hb hJ.size) hb (hv)
          refine StepsFr.cons ?_ ?_
          · intro u w hJ hF K hK
            clear hF
            have hf2 := (below_atB (i := 0) hJ hlt1).trans x1.c0
            have hf3 := (below_atB (i := 1) hJ hlt1).trans x1.c1
            go_simp
            exact hK.out _ _ hJ (Below.refl _ _) (p2.up hJ)
          refine StepsFr.cons ?_ ?_
          · intro u w hJ hF K hK
            clear hF
            have hf4 := (below_atB (i := 0) hJ hlt2).trans b2.c0
            have hf5 := (below_atB (i := 1) hJ hlt2).trans b2.c1
            go_simp
            exact hK.out _ _ hJ (Below.refl _ _) (p3.up hJ)
          refine StepsFr.cons ?_ ?_
          · intro u w hJ hF K hK
            have h69 : PInt z2 223 (u 69) w := facts_get hF 69 (by simp)
            have h70 : PInt z3 223 (u 70) w := facts_get hF 70 (by simp)
            clear hF
            go_simp
            refine (add_fact h69 h70 (by omega) (by omega)).mono ?_
            rintro e w' ⟨v, rfl, hv, hb⟩
            exact hK.out _ _ (below_then hJ hb hJ.size) hb (hv)
          refine StepsFr.cons ?_ ?_
          · intro u w hJ hF K hK
            have h68 : PInt (z1 + z3) 447 (u 68) w := facts_get hF 68 (by simp)
            have h71 : PInt (z2 + z3) 447 (u 71) w := facts_get hF 71 (by simp)
            clear hF
            go_simp
            refine (cmp_fact h68 h71 (by omega) (by omega)).mono ?_
            rintro e w' ⟨rfl, hb⟩
            exact hK.out _ _ (below_then hJ hb hJ.size) hb (rfl)
          refine StepsFr.cons ?_ ?_
          · intro u w hJ hF K hK
            clear hF
            go_simp
            exact hK.out _ _ hJ (Below.refl _ _) (rfl)
          refine StepsFr.cons ?_ ?_
          · intro u w hJ hF K hK
            have h72 : u 72 = (.int .i64 (cmpI (z1 + z3) (z2 + z3))) := facts_get hF 72 (by simp)
            have h73 : u 73 = (.int .i64 cc) := facts_get hF 73 (by simp)
            clear hF
            simp only [h72, h73] at hK ⊢
            clear h72 h73
            have e4 := E4.out
            go_simp
            exact hK.out _ _ hJ (Below.refl _ _) (rfl)
          refine StepsFr.cons ?_ ?_
          · intro u w hJ hF K hK
            have h74 : u 74 = (Value.bool true) := facts_get hF 74 (by simp)
            clear hF
            simp only [h74] at hK ⊢
            clear h74
            go_simp
            exact hK.out _ _ hJ (Below.refl _ _) (rfl)
          refine StepsFr.cons ?_ ?_
          · intro u w hJ hF K hK
            have h75 : u 75 = (Value.bool true) := facts_get hF 75 (by simp)
            clear hF
            simp only [h75] at hK ⊢
            clear h75
            go_simp
            exact hK.out _ _ hJ (Below.refl _ _) (rfl)
          refine StepsFr.cons ?_ ?_
          · intro u w hJ hF K hK
            have h75 : u 75 = (Value.bool true) := facts_get hF 75 (by simp)
            have h76 : u 76 = (.int .i64 cc) := facts_get hF 76 (by simp)
            clear hF
            simp only [h75, h76] at hK ⊢
            clear h75 h76
            go_simp
            exact hK.out _ _ hJ (Below.refl _ _) (rfl)
          refine StepsFr.cons ?_ ?_
          · intro u w hJ hF K hK
            have h75 : u 75 = (Value.bool true) := facts_get hF 75 (by simp)
            have h77 : u 77 = (Value.bool true) := facts_get hF 77 (by simp)
            clear hF
            simp only [h75, h77] at hK ⊢
            clear h75 h77
            go_simp
            exact hK.out _ _ hJ (Below.refl _ _) (rfl)
          refine StepsFr.cons ?_ ?_
          · intro u w hJ hF K hK
            have h78 : u 78 = (Value.bool true) := facts_get hF 78 (by simp)
            clear hF
            simp only [h78] at hK ⊢
            clear h78
            go_simp
            exact hK.out _ _ hJ (Below.refl _ _) (rfl)
          refine StepsFr.cons ?_ ?_
          · intro u w hJ hF K hK
            have h78 : u 78 = (Value.bool true) := facts_get hF 78 (by simp)
            clear hF
            simp only [h78] at hK ⊢
            clear h78
            go_simp
            exact hK.out _ _ hJ (Below.refl _ _) (rfl)
          refine StepsFr.cons ?_ ?_
          · intro u w hJ hF K hK
            have h78 : u 78 = (Value.bool true) := facts_get hF 78 (by simp)
            clear hF
            simp only [h78] at hK ⊢
            clear h78
            go_simp
            exact hK.out _ _ hJ (Below.refl _ _) (rfl)
          refine StepsFr.cons ?_ ?_
          · intro u w hJ hF K hK
            have h78 : u 78 = (Value.bool true) := facts_get hF 78 (by simp)
            clear hF
            simp only [h78] at hK ⊢
            clear h78
            go_simp
            exact hK.out _ _ hJ (Below.refl _ _) (rfl)
          refine StepsFr.cons ?_ ?_
          · intro u w hJ hF K hK
            have h75 : u 75 = (Value.bool true) := facts_get hF 75 (by simp)
            have h78 : u 78 = (Value.bool true) := facts_get hF 78 (by simp)
            have h82 : u 82 = undef := facts_get hF 82 (by simp)
            clear hF
            simp only [h75, h78, h82] at hK ⊢
            clear h75 h78 h82
            go_simp
            exact hK.out _ _ hJ (Below.refl _ _) (rfl)
          refine StepsFr.cons ?_ ?_
          · intro u w hJ hF K hK
            have h75 : u 75 = (Value.bool true) := facts_get hF 75 (by simp)
            have h83 : u 83 = (Value.bool true) := facts_get hF 83 (by simp)
            clear hF
            simp only [h75, h83] at hK ⊢
            clear h75 h83
            go_simp
            exact hK.out _ _ hJ (Below.refl _ _) (rfl)
          refine StepsFr.cons ?_ ?_
          · intro u w hJ hF K hK
            have h84 : u 84 = (Value.bool true) := facts_get hF 84 (by simp)
            clear hF
            simp only [h84] at hK ⊢
            clear h84
            go_simp
            exact hK.out _ _ hJ (Below.refl _ _) (rfl)
          refine StepsFr.cons ?_ ?_
          · intro u w hJ hF K hK
            have h84 : u 84 = (Value.bool true) := facts_get hF 84 (by simp)
            clear hF
            simp only [h84] at hK ⊢
            clear h84
            go_simp
            exact hK.out _ _ hJ (Below.refl _ _) (rfl)
          refine StepsFr.cons ?_ ?_
          · intro u w hJ hF K hK
            have h84 : u 84 = (Value.bool true) := facts_get hF 84 (by simp)
            clear hF
            simp only [h84] at hK ⊢
            clear h84
            go_simp
            exact hK.out _ _ hJ (Below.refl _ _) (rfl)
          refine StepsFr.cons ?_ ?_
          · intro u w hJ hF K hK
            have h84 : u 84 = (Value.bool true) := facts_get hF 84 (by simp)
            clear hF
            simp only [h84] at hK ⊢
            clear h84
            go_simp
            exact hK.out _ _ hJ (Below.refl _ _) (rfl)
          refine StepsFr.cons ?_ ?_
          · intro u w hJ hF K hK
            have h75 : u 75 = (Value.bool true) := facts_get hF 75 (by simp)
            have h84 : u 84 = (Value.bool true) := facts_get hF 84 (by simp)
            have h88 : u 88 = undef := facts_get hF 88 (by simp)
            clear hF
            simp only [h75, h84, h88] at hK ⊢
            clear h75 h84 h88
            go_simp
            exact hK.out _ _ hJ (Below.refl _ _) (rfl)
          refine StepsFr.cons ?_ ?_
          · intro u w hJ hF K hK
            have h75 : u 75 = (Value.bool true) := facts_get hF 75 (by simp)
            have h89 : u 89 = (Value.bool true) := facts_get hF 89 (by simp)
            clear hF
            simp only [h75, h89] at hK ⊢
            clear h75 h89
            go_simp
            exact hK.out _ _ hJ (Below.refl _ _) (rfl)
          refine StepsFr.cons ?_ ?_
          · intro u w hJ hF K hK
            have h90 : u 90 = (Value.bool true) := facts_get hF 90 (by simp)
            clear hF
            simp only [h90] at hK ⊢
            clear h90
            go_simp
            exact hK.out _ _ hJ (Below.refl _ _) (rfl)
          exact StepsFr.nil
        · intro u w9 hJ hF
          have h6 : u 6 = .bool true := facts_get hF 6 (by simp [ordFLA, temps])
          clear hF
          go_wp2
          go_ret
          exact ⟨by first | rfl | (show Ending.returned (u 6) = _; rw [h6]), HBW.out.trans (Below.less hJ HBW.out.size)⟩
      · have hd1 : decide (0 < cc) = false := by simpa using hc1
        by_cases hc2 : 0 < cmpI z2 z3
        · have hd2 : decide (0 < cmpI z2 z3) = true := by simpa using hc2
          refine region_facts (ordFLB z1 z2 z3 cc) (fun w' => Below w8.heap.size w8 w') [[], [], [66, 67], [], [], [69, 70], [68, 71], [], [72, 73], [74], [75], [75, 76], [75, 77], [78], [78], [78, 79, 80], [78, 81], [75, 78, 82], [75, 83], [84], [84], [84], [84], [75, 84, 88], [75, 89], [90]] (fun u => by simp only [ordFLB, temps, List.map_cons, List.map_nil, fillL, List.setIfInBounds_toArray, List.set_cons_zero, List.set_cons_succ]; rfl) (by kernel_rfl) (by kernel_rfl) (by kernel_rfl) (below_drew HC.out) ?_ ?_
          · refine StepsFr.cons ?_ ?_
            · intro u w hJ hF K hK
              clear hF
              have hf0 := (below_atB (i := 0) hJ hlt0).trans x0.c0
              have hf1 := (below_atB (i := 1) hJ hlt0).trans x0.c1
              go_simp
              exact hK.out _ _ hJ (Below.refl _ _) (p1.up hJ)
            refine StepsFr.cons ?_ ?_
            · intro u w hJ hF K hK
              clear hF
              have hf4 := (below_atB (i := 0) hJ hlt2).trans b2.c0
              have hf5 := (below_atB (i := 1) hJ hlt2).trans b2.c1
              go_simp
              exact hK.out _ _ hJ (Below.refl _ _) (p3.up hJ)
            refine StepsFr.cons ?_ ?_
            · intro u w hJ hF K hK
              have h66 : PInt z1 223 (u 66) w := facts_get hF 66 (by simp)
              have h67 : PInt z3 223 (u 67) w := facts_get hF 67 (by simp)
              clear hF
              go_simp
              refine (add_fact h66 h67 (by omega) (by omega)).mono ?_
              rintro e w' ⟨v, rfl, hv, hb⟩
              exact hK.out _ _ (below_then hJ hb hJ.size) hb (hv)
            refine StepsFr.cons ?_ ?_
            · intro u w hJ hF K hK
              clear hF
              have hf2 := (below_atB (i := 0) hJ hlt1).trans x1.c0
              have hf3 := (below_atB (i := 1) hJ hlt1).trans x1.c1
              go_simp
              exact hK.out _ _ hJ (Below.refl _ _) (p2.up hJ)
            refine StepsFr.cons ?_ ?_
            · intro u w hJ hF K hK
              clear hF
              have hf4 := (below_atB (i := 0) hJ hlt2).trans b2.c0
              have hf5 := (below_atB (i := 1) hJ hlt2).trans b2.c1
              go_simp
              exact hK.out _ _ hJ (Below.refl _ _) (p3.up hJ)
            refine StepsFr.cons ?_ ?_
            · intro u w hJ hF K hK
              have h69 : PInt z2 223 (u 69) w := facts_get hF 69 (by simp)
              have h70 : PInt z3 223 (u 70) w := facts_get hF 70 (by simp)
              clear hF
              go_simp
              refine (add_fact h69 h70 (by omega) (by omega)).mono ?_
              rintro e w' ⟨v, rfl, hv, hb⟩
              exact hK.out _ _ (below_then hJ hb hJ.size) hb (hv)
            refine StepsFr.cons ?_ ?_
            · intro u w hJ hF K hK
              have h68 : PInt (z1 + z3) 447 (u 68) w := facts_get hF 68 (by simp)
              have h71 : PInt (z2 + z3) 447 (u 71) w := facts_get hF 71 (by simp)
              clear hF
              go_simp
              refine (cmp_fact h68 h71 (by omega) (by omega)).mono ?_
              rintro e w' ⟨rfl, hb⟩
              exact hK.out _ _ (below_then hJ hb hJ.size) hb (rfl)
            refine StepsFr.cons ?_ ?_
            · intro u w hJ hF K hK
              clear hF
              go_simp
              exact hK.out _ _ hJ (Below.refl _ _) (rfl)
            refine StepsFr.cons ?_ ?_
            · intro u w hJ hF K hK
              have h72 : u 72 = (.int .i64 (cmpI (z1 + z3) (z2 + z3))) := facts_get hF 72 (by simp)
              have h73 : u 73 = (.int .i64 cc) := facts_get hF 73 (by simp)
              clear hF
              simp only [h72, h73] at hK ⊢
              clear h72 h73
              have e4 := E4.out
              go_simp
              exact hK.out _ _ hJ (Below.refl _ _) (rfl)
            refine StepsFr.cons ?_ ?_
            · intro u w hJ hF K hK
              have h74 : u 74 = (Value.bool true) := facts_get hF 74 (by simp)
              clear hF
              simp only [h74] at hK ⊢
              clear h74
              go_simp
              exact hK.out _ _ hJ (Below.refl _ _) (rfl)
            refine StepsFr.cons ?_ ?_
            · intro u w hJ hF K hK
              have h75 : u 75 = (Value.bool true) := facts_get hF 75 (by simp)
              clear hF
              simp only [h75] at hK ⊢
              clear h75
              go_simp
              exact hK.out _ _ hJ (Below.refl _ _) (rfl)
            refine StepsFr.cons ?_ ?_
            · intro u w hJ hF K hK
              have h75 : u 75 = (Value.bool true) := facts_get hF 75 (by simp)
              have h76 : u 76 = (.int .i64 cc) := facts_get hF 76 (by simp)
              clear hF
              simp only [h75, h76] at hK ⊢
              clear h75 h76
              go_simp
              exact hK.out _ _ hJ (Below.refl _ _) (rfl)
            refine StepsFr.cons ?_ ?_
            · intro u w hJ hF K hK
              have h75 : u 75 = (Value.bool true) := facts_get hF 75 (by simp)
              have h77 : u 77 = (Value.bool false) := facts_get hF 77 (by simp)
              clear hF
              simp only [h75, h77] at hK ⊢
              clear h75 h77
              go_simp
              exact hK.out _ _ hJ (Below.refl _ _) (rfl)
            refine StepsFr.cons ?_ ?_
            · intro u w hJ hF K hK
              have h78 : u 78 = (Value.bool false) := facts_get hF 78 (by simp)
              clear hF
              simp only [h78] at hK ⊢
              clear h78
              have hf2 := (below_atB (i := 0) hJ hlt1).trans x1.c0
              have hf3 := (below_atB (i := 1) hJ hlt1).trans x1.c1
              go_simp
              exact hK.out _ _ hJ (Below.refl _ _) (p2.up hJ)
            refine StepsFr.cons ?_ ?_
            · intro u w hJ hF K hK
              have h78 : u 78 = (Value.bool false) := facts_get hF 78 (by simp)
              clear hF
              simp only [h78] at hK ⊢
              clear h78
              have hf4 := (below_atB (i := 0) hJ hlt2).trans b2.c0
              have hf5 := (below_atB (i := 1) hJ hlt2).trans b2.c1
              go_simp
              exact hK.out _ _ hJ (Below.refl _ _) (p3.up hJ)
            refine StepsFr.cons ?_ ?_
            · intro u w hJ hF K hK
              have h78 : u 78 = (Value.bool false) := facts_get hF 78 (by simp)
              have h79 : PInt z2 223 (u 79) w := facts_get hF 79 (by simp)
              have h80 : PInt z3 223 (u 80) w := facts_get hF 80 (by simp)
              clear hF
              simp only [h78] at hK ⊢
              clear h78
              go_simp
              refine (cmp_fact h79 h80 (by omega) (by omega)).mono ?_
              rintro e w' ⟨rfl, hb⟩
              exact hK.out _ _ (below_then hJ hb hJ.size) hb (rfl)
            refine StepsFr.cons ?_ ?_
            · intro u w hJ hF K hK
              have h78 : u 78 = (Value.bool false) := facts_get hF 78 (by simp)
              have h81 : u 81 = (.int .i64 (cmpI z2 z3)) := facts_get hF 81 (by simp)
              clear hF
              simp only [h78, h81] at hK ⊢
              clear h78 h81
              go_simp
              exact hK.out _ _ hJ (Below.refl _ _) (rfl)
            refine StepsFr.cons ?_ ?_
            · intro u w hJ hF K hK
              have h75 : u 75 = (Value.bool true) := facts_get hF 75 (by simp)
              have h78 : u 78 = (Value.bool false) := facts_get hF 78 (by simp)
              have h82 : u 82 = (Value.bool true) := facts_get hF 82 (by simp)
              clear hF
              simp only [h75, h78, h82] at hK ⊢
              clear h75 h78 h82
              go_simp
              exact hK.out _ _ hJ (Below.refl _ _) (rfl)
            refine StepsFr.cons ?_ ?_
            · intro u w hJ hF K hK
              have h75 : u 75 = (Value.bool true) := facts_get hF 75 (by simp)
              have h83 : u 83 = (Value.bool true) := facts_get hF 83 (by simp)
              clear hF
              simp only [h75, h83] at hK ⊢
              clear h75 h83
              go_simp
              exact hK.out _ _ hJ (Below.refl _ _) (rfl)
            refine StepsFr.cons ?_ ?_
            · intro u w hJ hF K hK
              have h84 : u 84 = (Value.bool true) := facts_get hF 84 (by simp)
              clear hF
              simp only [h84] at hK ⊢
              clear h84
              go_simp
              exact hK.out _ _ hJ (Below.refl _ _) (rfl)
            refine StepsFr.cons ?_ ?_
            · intro u w hJ hF K hK
              have h84 : u 84 = (Value.bool true) := facts_get hF 84 (by simp)
              clear hF
              simp only [h84] at hK ⊢
              clear h84
              go_simp
              exact hK.out _ _ hJ (Below.refl _ _) (rfl)
            refine StepsFr.cons ?_ ?_
            · intro u w hJ hF K hK
              have h84 : u 84 = (Value.bool true) := facts_get hF 84 (by simp)
              clear hF
              simp only [h84] at hK ⊢
              clear h84
              go_simp
              exact hK.out _ _ hJ (Below.refl _ _) (rfl)
            refine StepsFr.cons ?_ ?_
            · intro u w hJ hF K hK
              have h84 : u 84 = (Value.bool true) := facts_get hF 84 (by simp)
              clear hF
              simp only [h84] at hK ⊢
              clear h84
              go_simp
              exact hK.out _ _ hJ (Below.refl _ _) (rfl)
            refine StepsFr.cons ?_ ?_
            · intro u w hJ hF K hK
              have h75 : u 75 = (Value.bool true) := facts_get hF 75 (by simp)
              have h84 : u 84 = (Value.bool true) := facts_get hF 84 (by simp)
              have h88 : u 88 = undef := facts_get hF 88 (by simp)
              clear hF
              simp only [h75, h84, h88] at hK ⊢
              clear h75 h84 h88
              go_simp
              exact hK.out _ _ hJ (Below.refl _ _) (rfl)
            refine StepsFr.cons ?_ ?_
            · intro u w hJ hF K hK
              have h75 : u 75 = (Value.bool true) := facts_get hF 75 (by simp)
              have h89 : u 89 = (Value.bool true) := facts_get hF 89 (by simp)
              clear hF
              simp only [h75, h89] at hK ⊢
              clear h75 h89
              go_simp
              exact hK.out _ _ hJ (Below.refl _ _) (rfl)
            refine StepsFr.cons ?_ ?_
            · intro u w hJ hF K hK
              have h90 : u 90 = (Value.bool true) := facts_get hF 90 (by simp)
              clear hF
              simp only [h90] at hK ⊢
              clear h90
              go_simp
              exact hK.out _ _ hJ (Below.refl _ _) (rfl)
            exact StepsFr.nil
          · intro u w9 hJ hF
            have h6 : u 6 = .bool true := facts_get hF 6 (by simp [ordFLB, temps])
            clear hF
            go_wp2
            go_ret
            exact ⟨by first | rfl | (show Ending.returned (u 6) = _; rw [h6]), HBW.out.trans (Below.less hJ HBW.out.size)⟩
        · have hd2 : decide (0 < cmpI z2 z3) = false := by simpa using hc2
          have hd3 : decide (cmpI z1 z3 ≤ 0) = true := by rw [decide_eq_true_iff]; exact E5.out (by omega) (by omega)
          refine region_facts (ordFLC z1 z2 z3 cc) (fun w' => Below w8.heap.size w8 w') [[], [], [66, 67], [], [], [69, 70], [68, 71], [], [72, 73], [74], [75], [75, 76], [75, 77], [78], [78], [78, 79, 80], [78, 81], [75, 78, 82], [75, 83], [84], [84], [84, 85, 86], [84, 87], [75, 84, 88], [75, 89], [90]] (fun u => by simp only [ordFLC, temps, List.map_cons, List.map_nil, fillL, List.setIfInBounds_toArray, List.set_cons_zero, List.set_cons_succ]; rfl) (by kernel_rfl) (by kernel_rfl) (by kernel_rfl) (below_drew HC.out) ?_ ?_
          · refine StepsFr.cons ?_ ?_
            · intro u w hJ hF K hK
              clear hF
              have hf0 := (below_atB (i := 0) hJ hlt0).trans x0.c0
              have hf1 := (below_atB (i := 1) hJ hlt0).trans x0.c1
              go_simp
              exact hK.out _ _ hJ (Below.refl _ _) (p1.up hJ)
            refine StepsFr.cons ?_ ?_
            · intro u w hJ hF K hK
              clear hF
              have hf4 := (below_atB (i := 0) hJ hlt2).trans b2.c0
              have hf5 := (below_atB (i := 1) hJ hlt2).trans b2.c1
              go_simp
              exact hK.out _ _ hJ (Below.refl _ _) (p3.up hJ)
            refine StepsFr.cons ?_ ?_
            · intro u w hJ hF K hK
              have h66 : PInt z1 223 (u 66) w := facts_get hF 66 (by simp)
              have h67 : PInt z3 223 (u 67) w := facts_get hF 67 (by simp)
              clear hF
              go_simp
              refine (add_fact h66 h67 (by omega) (by omega)).mono ?_
              rintro e w' ⟨v, rfl, hv, hb⟩
              exact hK.out _ _ (below_then hJ hb hJ.size) hb (hv)
            refine StepsFr.cons ?_ ?_
            · intro u w hJ hF K hK
              clear hF
              have hf2 := (below_atB (i := 0) hJ hlt1).trans x1.c0
              have hf3 := (below_atB (i := 1) hJ hlt1).trans x1.c1
              go_simp
              exact hK.out _ _ hJ (Below.refl _ _) (p2.up hJ)
            refine StepsFr.cons ?_ ?_
            · intro u w hJ hF K hK
              clear hF
              have hf4 := (below_atB (i := 0) hJ hlt2).trans b2.c0
              have hf5 := (below_atB (i := 1) hJ hlt2).trans b2.c1
              go_simp
              exact hK.out _ _ hJ (Below.refl _ _) (p3.up hJ)
            refine StepsFr.cons ?_ ?_
            · intro u w hJ hF K hK
              have h69 : PInt z2 223 (u 69) w := facts_get hF 69 (by simp)
              have h70 : PInt z3 223 (u 70) w := facts_get hF 70 (by simp)
              clear hF
              go_simp
              refine (add_fact h69 h70 (by omega) (by omega)).mono ?_
              rintro e w' ⟨v, rfl, hv, hb⟩
              exact hK.out _ _ (below_then hJ hb hJ.size) hb (hv)
            refine StepsFr.cons ?_ ?_
            · intro u w hJ hF K hK
              have h68 : PInt (z1 + z3) 447 (u 68) w := facts_get hF 68 (by simp)
              have h71 : PInt (z2 + z3) 447 (u 71) w := facts_get hF 71 (by simp)
              clear hF
              go_simp
              refine (cmp_fact h68 h71 (by omega) (by omega)).mono ?_
              rintro e w' ⟨rfl, hb⟩
              exact hK.out _ _ (below_then hJ hb hJ.size) hb (rfl)
            refine StepsFr.cons ?_ ?_
            · intro u w hJ hF K hK
              clear hF
              go_simp
              exact hK.out _ _ hJ (Below.refl _ _) (rfl)
            refine StepsFr.cons ?_ ?_
            · intro u w hJ hF K hK
              have h72 : u 72 = (.int .i64 (cmpI (z1 + z3) (z2 + z3))) := facts_get hF 72 (by simp)
              have h73 : u 73 = (.int .i64 cc) := facts_get hF 73 (by simp)
              clear hF
              simp only [h72, h73] at hK ⊢
              clear h72 h73
              have e4 := E4.out
              go_simp
              exact hK.out _ _ hJ (Below.refl _ _) (rfl)
            refine StepsFr.cons ?_ ?_
            · intro u w hJ hF K hK
              have h74 : u 74 = (Value.bool true) := facts_get hF 74 (by simp)
              clear hF
              simp only [h74] at hK ⊢
              clear h74
              go_simp
              exact hK.out _ _ hJ (Below.refl _ _) (rfl)
            refine StepsFr.cons ?_ ?_
            · intro u w hJ hF K hK
              have h75 : u 75 = (Value.bool true) := facts_get hF 75 (by simp)
              clear hF
              simp only [h75] at hK ⊢
              clear h75
              go_simp
              exact hK.out _ _ hJ (Below.refl _ _) (rfl)
            refine StepsFr.cons ?_ ?_
            · intro u w hJ hF K hK
              have h75 : u 75 = (Value.bool true) := facts_get hF 75 (by simp)
              have h76 : u 76 = (.int .i64 cc) := facts_get hF 76 (by simp)
              clear hF
              simp only [h75, h76] at hK ⊢
              clear h75 h76
              go_simp
              exact hK.out _ _ hJ (Below.refl _ _) (rfl)
            refine StepsFr.cons ?_ ?_
            · intro u w hJ hF K hK
              have h75 : u 75 = (Value.bool true) := facts_get hF 75 (by simp)
              have h77 : u 77 = (Value.bool false) := facts_get hF 77 (by simp)
              clear hF
              simp only [h75, h77] at hK ⊢
              clear h75 h77
              go_simp
              exact hK.out _ _ hJ (Below.refl _ _) (rfl)
            refine StepsFr.cons ?_ ?_
            · intro u w hJ hF K hK
              have h78 : u 78 = (Value.bool false) := facts_get hF 78 (by simp)
              clear hF
              simp only [h78] at hK ⊢
              clear h78
              have hf2 := (below_atB (i := 0) hJ hlt1).trans x1.c0
              have hf3 := (below_atB (i := 1) hJ hlt1).trans x1.c1
              go_simp
              exact hK.out _ _ hJ (Below.refl _ _) (p2.up hJ)
            refine StepsFr.cons ?_ ?_
            · intro u w hJ hF K hK
              have h78 : u 78 = (Value.bool false) := facts_get hF 78 (by simp)
              clear hF
              simp only [h78] at hK ⊢
              clear h78
              have hf4 := (below_atB (i := 0) hJ hlt2).trans b2.c0
              have hf5 := (below_atB (i := 1) hJ hlt2).trans b2.c1
              go_simp
              exact hK.out _ _ hJ (Below.refl _ _) (p3.up hJ)
            refine StepsFr.cons ?_ ?_
            · intro u w hJ hF K hK
              have h78 : u 78 = (Value.bool false) := facts_get hF 78 (by simp)
              have h79 : PInt z2 223 (u 79) w := facts_get hF 79 (by simp)
              have h80 : PInt z3 223 (u 80) w := facts_get hF 80 (by simp)
              clear hF
              simp only [h78] at hK ⊢
              clear h78
              go_simp
              refine (cmp_fact h79 h80 (by omega) (by omega)).mono ?_
              rintro e w' ⟨rfl, hb⟩
              exact hK.out _ _ (below_then hJ hb hJ.size) hb (rfl)
            refine StepsFr.cons ?_ ?_
            · intro u w hJ hF K hK
              have h78 : u 78 = (Value.bool false) := facts_get hF 78 (by simp)
              have h81 : u 81 = (.int .i64 (cmpI z2 z3)) := facts_get hF 81 (by simp)
              clear hF
              simp only [h78, h81] at hK ⊢
              clear h78 h81
              go_simp
              exact hK.out _ _ hJ (Below.refl _ _) (rfl)
            refine StepsFr.cons ?_ ?_
            · intro u w hJ hF K hK
              have h75 : u 75 = (Value.bool true) := facts_get hF 75 (by simp)
              have h78 : u 78 = (Value.bool false) := facts_get hF 78 (by simp)
              have h82 : u 82 = (Value.bool false) := facts_get hF 82 (by simp)
              clear hF
              simp only [h75, h78, h82] at hK ⊢
              clear h75 h78 h82
              go_simp
              exact hK.out _ _ hJ (Below.refl _ _) (rfl)
            refine StepsFr.cons ?_ ?_
            · intro u w hJ hF K hK
              have h75 : u 75 = (Value.bool true) := facts_get hF 75 (by simp)
              have h83 : u 83 = (Value.bool false) := facts_get hF 83 (by simp)
              clear hF
              simp only [h75, h83] at hK ⊢
              clear h75 h83
              go_simp
              exact hK.out _ _ hJ (Below.refl _ _) (rfl)
            refine StepsFr.cons ?_ ?_
            · intro u w hJ hF K hK
              have h84 : u 84 = (Value.bool false) := facts_get hF 84 (by simp)
              clear hF
              simp only [h84] at hK ⊢
              clear h84
              have hf0 := (below_atB (i := 0) hJ hlt0).trans x0.c0
              have hf1 := (below_atB (i := 1) hJ hlt0).trans x0.c1
              go_simp
              exact hK.out _ _ hJ (Below.refl _ _) (p1.up hJ)
            refine StepsFr.cons ?_ ?_
            · intro u w hJ hF K hK
              have h84 : u 84 = (Value.bool false) := facts_get hF 84 (by simp)
              clear hF
              simp only [h84] at hK ⊢
              clear h84
              have hf4 := (below_atB (i := 0) hJ hlt2).trans b2.c0
              have hf5 := (below_atB (i := 1) hJ hlt2).trans b2.c1
              go_simp
              exact hK.out _ _ hJ (Below.refl _ _) (p3.up hJ)
            refine StepsFr.cons ?_ ?_
            · intro u w hJ hF K hK
              have h84 : u 84 = (Value.bool false) := facts_get hF 84 (by simp)
              have h85 : PInt z1 223 (u 85) w := facts_get hF 85 (by simp)
              have h86 : PInt z3 223 (u 86) w := facts_get hF 86 (by simp)
              clear hF
              simp only [h84] at hK ⊢
              clear h84
              go_simp
              refine (cmp_fact h85 h86 (by omega) (by omega)).mono ?_
              rintro e w' ⟨rfl, hb⟩
              exact hK.out _ _ (below_then hJ hb hJ.size) hb (rfl)
            refine StepsFr.cons ?_ ?_
            · intro u w hJ hF K hK
              have h84 : u 84 = (Value.bool false) := facts_get hF 84 (by simp)
              have h87 : u 87 = (.int .i64 (cmpI z1 z3)) := facts_get hF 87 (by simp)
              clear hF
              simp only [h84, h87] at hK ⊢
              clear h84 h87
              go_simp
              exact hK.out _ _ hJ (Below.refl _ _) (rfl)
            refine StepsFr.cons ?_ ?_
            · intro u w hJ hF K hK
              have h75 : u 75 = (Value.bool true) := facts_get hF 75 (by simp)
              have h84 : u 84 = (Value.bool false) := facts_get hF 84 (by simp)
              have h88 : u 88 = (Value.bool true) := facts_get hF 88 (by simp)
              clear hF
              simp only [h75, h84, h88] at hK ⊢
              clear h75 h84 h88
              go_simp
              exact hK.out _ _ hJ (Below.refl _ _) (rfl)
            refine StepsFr.cons ?_ ?_
            · intro u w hJ hF K hK
              have h75 : u 75 = (Value.bool true) := facts_get hF 75 (by simp)
              have h89 : u 89 = (Value.bool true) := facts_get hF 89 (by simp)
              clear hF
              simp only [h75, h89] at hK ⊢
              clear h75 h89
              go_simp
              exact hK.out _ _ hJ (Below.refl _ _) (rfl)
            refine StepsFr.cons ?_ ?_
            · intro u w hJ hF K hK
              have h90 : u 90 = (Value.bool true) := facts_get hF 90 (by simp)
              clear hF
              simp only [h90] at hK ⊢
              clear h90
              go_simp
              exact hK.out _ _ hJ (Below.refl _ _) (rfl)
            exact StepsFr.nil
          · intro u w9 hJ hF
            have h6 : u 6 = .bool true := facts_get hF 6 (by simp [ordFLC, temps])
            clear hF
            go_wp2
            go_ret
            exact ⟨by first | rfl | (show Ending.returned (u 6) = _; rw [h6]), HBW.out.trans (Below.less hJ HBW.out.size)⟩
end Go.Proofs.YtbfbijokhlkekaaDoor
