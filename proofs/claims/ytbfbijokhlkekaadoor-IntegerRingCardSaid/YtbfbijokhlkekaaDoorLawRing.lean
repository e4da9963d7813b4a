/- IntegerRing: for every three texts the statement about the laws of sums and products returns true. -/
import Derived.Test.YtbfbijokhlkekaaDoorK3
import Derived.Deep.CutRange
namespace Go.Proofs.YtbfbijokhlkekaaDoor
open Go.RowKit

theorem cmp_zero (x : Int) : cmpI (x - x) 0 = 0 := by rw [Int.sub_self]; unfold cmpI; simp
def ringFL1 (z1 z2 z3 : Int) : List (Nat × Fact) := [(42, .int (z1) 223), (43, .int (z2) 223), (44, .int ((z1) + (z2)) 447), (45, .int (z2) 223), (46, .int (z1) 223), (47, .int ((z2) + (z1)) 447), (48, .is (.bool true)), (49, .is (.bool false)), (50, .is (.bool false)), (51, .int (z1) 223), (52, .int (z2) 223), (53, .int ((z1) * (z2)) 446), (54, .int (z2) 223), (55, .int (z1) 223), (56, .int ((z2) * (z1)) 446), (57, .is (.bool true)), (58, .is (.bool false)), (59, .is (.bool false))]
def ringFL2 (z1 z2 z3 : Int) : List (Nat × Fact) := [(60, .int (z1) 223), (61, .int (z2) 223), (62, .int ((z1) + (z2)) 447), (63, .int (z3) 223), (64, .int (((z1) + (z2)) + (z3)) 671), (65, .int (z1) 223), (66, .int (z2) 223), (67, .int (z3) 223), (68, .int ((z2) + (z3)) 447), (69, .int ((z1) + ((z2) + (z3))) 671), (70, .is (.bool true)), (71, .is (.bool false)), (72, .is (.bool false)), (73, .int (z1) 223), (74, .int (z2) 223), (75, .int ((z1) * (z2)) 446), (76, .int (z3) 223), (77, .int (((z1) * (z2)) * (z3)) 669), (78, .int (z1) 223), (79, .int (z2) 223), (80, .int (z3) 223), (81, .int ((z2) * (z3)) 446), (82, .int ((z1) * ((z2) * (z3))) 669), (83, .is (.bool true)), (84, .is (.bool false)), (85, .is (.bool false))]
def ringFL3 (z1 z2 z3 : Int) : List (Nat × Fact) := [(86, .int (z1) 223), (87, .int (z2) 223), (88, .int (z3) 223), (89, .int ((z2) + (z3)) 447), (90, .int ((z1) * ((z2) + (z3))) 670), (91, .int (z1) 223), (92, .int (z2) 223), (93, .int ((z1) * (z2)) 446), (94, .int (z1) 223), (95, .int (z3) 223), (96, .int ((z1) * (z3)) 446), (97, .int (((z1) * (z2)) + ((z1) * (z3))) 893), (98, .is (.bool true)), (99, .is (.bool true)), (100, .int (z1) 223), (101, .int (z2) 223), (102, .int ((z1) - (z2)) 447), (103, .int (z1) 223), (104, .int (z2) 223), (105, .int (-(z2)) 223), (106, .int ((z1) + (-(z2))) 447), (107, .is (.bool true)), (108, .is (.bool true)), (109, .is (.bool true)), (110, .int (z1) 223), (111, .int (z1) 223), (112, .int ((z1) - (z1)) 447), (113, .is (.int .i64 (0))), (114, .is (.bool true)), (115, .is (.bool true)), (6, .is (.bool true))]

set_option maxRecDepth 20000 in
set_option maxHeartbeats 6400000 in
theorem law_ring (s t u : ByteArray) (w : World) (htab : Tab w.heap.size w) :
    Calls Tryd.prog 8 #[.string s, .string t, .string u] w fun e w' => e = .returned (.bool true) ∧ Below w.heap.size w w' := by
  have HT := Lib.hid htab
  have HBO := Lib.hid (fun W => both_any s t W)
  have HBU := Lib.hid (fun W => both_any u ⟨#[48]⟩ W)
  clear htab
  go_enter Tryd.func8, Tryd.ntmps8
  go_wp2_with fail
  refine (awake_any w HT.out).mono ?_
  rintro e w1 ⟨rfl, hb1⟩
  go_wp2_with fail
  refine (HBO.out _).mono ?_
  rintro e w2 ⟨k1, A1, c1, L1, k2, A2, c2, L2, k3, A3, c3, L3, k4, A4, c4, L4, ok, rfl, I1, I2, -, -, hl1, hl2, -, -, -, hb2⟩
  have hb12 := hb1.trans (Below.less hb2 hb1.size)
  clear hb1 hb2
  have F := four_boxes w2 (.bool k1) (.slice A1 (List.length L1) c1) (.bool k2) (.slice A2 (List.length L2) c2) (.bool k3) (.slice A3 (List.length L3) c3) (.bool k4) (.slice A4 (List.length L4) c4) 25 25 31 31
  go_wp2_with fail
  change Calls Tryd.prog 22 #[.string u, .string ⟨#[48]⟩] ((((w2.alloc (.cells #[.bool k1, .slice A1 (List.length L1) c1] 25)).alloc (.cells #[.bool k2, .slice A2 (List.length L2) c2] 25)).alloc (.cells #[.bool k3, .slice A3 (List.length L3) c3] 31)).alloc (.cells #[.bool k4, .slice A4 (List.length L4) c4] 31)) _
  generalize (((w2.alloc (.cells #[.bool k1, .slice A1 (List.length L1) c1] 25)).alloc (.cells #[.bool k2, .slice A2 (List.length L2) c2] 25)).alloc (.cells #[.bool k3, .slice A3 (List.length L3) c3] 31)).alloc (.cells #[.bool k4, .slice A4 (List.length L4) c4] 31) = V at *
  obtain ⟨b0, b1, -, -, hsz, hbw⟩ := F
  have hbV := hb12.trans (Below.less hbw hb12.size)
  have J1 := I1.up hbw
  have J2 := I2.up hbw
  clear hb12 hbw I1 I2
  refine (HBU.out _).mono ?_
  rintro e w3 ⟨k5, A5, c5, L5, k6, A6, c6, L6, k7, A7, c7, L7, k8, A8, c8, L8, ok2, rfl, I5, -, -, -, hl5, -, -, -, -, hb3⟩
  have hb13 := hbV.trans (Below.less hb3 hbV.size)
  have J1' := J1.up hb3
  have J2' := J2.up hb3
  have x0 := b0.below hb3 (by omega)
  have x1 := b1.below hb3 (by omega)
  have hsz3 := hb3.size
  clear b0 b1 J1 J2 hb3 hbV
  have F := four_boxes w3 (.bool k5) (.slice A5 (List.length L5) c5) (.bool k6) (.slice A6 (List.length L6) c6) (.bool k7) (.slice A7 (List.length L7) c7) (.bool k8) (.slice A8 (List.length L8) c8) 25 25 31 31
  rw [hsz] at hsz3
  clear hsz
  cases ok
  · have HB := Lib.hid hb13
    have HX0 := Lib.hid x0
    have HX1 := Lib.hid x1
    clear hb13 x0 x1
    go_wp2_with fail
    go_ret
    exact ⟨rfl, HB.out.trans (Below.less F.2.2.2.2.2 HB.out.size)⟩
  · cases ok2
    · have HB := Lib.hid hb13
      have HX0 := Lib.hid x0
      have HX1 := Lib.hid x1
      clear hb13 x0 x1
      go_wp2_with fail
      go_ret
      exact ⟨rfl, HB.out.trans (Below.less F.2.2.2.2.2 HB.out.size)⟩
    · have HB := Lib.hid hb13
      have HX0 := Lib.hid x0
      have HX1 := Lib.hid x1
      clear hb13 x0 x1
      go_wp2_with fail
      change Code.wp Tryd.prog _ _ _ ((((w3.alloc (.cells #[.bool k5, .slice A5 (List.length L5) c5] 25)).alloc (.cells #[.bool k6, .slice A6 (List.length L6) c6] 25)).alloc (.cells #[.bool k7, .slice A7 (List.length L7) c7] 31)).alloc (.cells #[.bool k8, .slice A8 (List.length L8) c8] 31))
      generalize (((w3.alloc (.cells #[.bool k5, .slice A5 (List.length L5) c5] 25)).alloc (.cells #[.bool k6, .slice A6 (List.length L6) c6] 25)).alloc (.cells #[.bool k7, .slice A7 (List.length L7) c7] 31)).alloc (.cells #[.bool k8, .slice A8 (List.length L8) c8] 31) = W at *
      obtain ⟨b2, -, -, -, hsz, hbw⟩ := F
      have x0 := HX0.out.below hbw (by omega)
      have x1 := HX1.out.below hbw (by omega)
      have I1 := J1'.up hbw
      have I2 := J2'.up hbw
      have I3 := I5.up hbw
      have hbW := HB.out.trans (Below.less hbw HB.out.size)
      clear HB HX0 HX1 J1' J2' I5 hbw
      have HWW := Lib.hid hbW
      have HTW := Lib.hid (tab_up HT.out hbW)
      have p1 : PInt (zI k1 L1) 223 (.agg #[.bool k1, .slice A1 (List.length L1) c1]) W := ⟨_, _, _, _, rfl, I1, rfl, hl1⟩
      have p2 : PInt (zI k2 L2) 223 (.agg #[.bool k2, .slice A2 (List.length L2) c2]) W := ⟨_, _, _, _, rfl, I2, rfl, hl2⟩
      have p3 : PInt (zI k5 L5) 223 (.agg #[.bool k5, .slice A5 (List.length L5) c5]) W := ⟨_, _, _, _, rfl, I3, rfl, hl5⟩
      have hlt0 : w2.heap.size < W.heap.size := by omega
      have hlt1 : w2.heap.size + 1 < W.heap.size := by omega
      have hlt2 : w3.heap.size < W.heap.size := by omega
      clear hbW I1 I2 I3 hsz hl1 hl2 hl5
      generalize zI k1 L1 = z1 at *
      generalize zI k2 L2 = z2 at *
      generalize zI k5 L5 = z3 at *
      generalize List.length L1 = n1 at *
      generalize List.length L2 = n2 at *
      generalize List.length L5 = n3 at *
      generalize hg0 : w2.heap.size = g0 at *
      generalize hg2 : w3.heap.size = g2 at *
      clear hg0 hg2
      have HC := Lib.hid (Below.refl W.heap.size W)
      refine region_facts (ringFL1 z1 z2 z3) (fun w' => Below W.heap.size W w') [[], [], [42, 43], [], [], [45, 46], [44, 47], [48], [49], [50], [50], [50, 51, 52], [50], [50], [50, 54, 55], [50, 53, 56], [50, 57], [50, 58]] (fun u => by simp only [ringFL1, temps, List.map_cons, List.map_nil, fillL, List.setIfInBounds_toArray, List.set_cons_zero, List.set_cons_succ]; rfl) (by kernel_rfl) (by kernel_rfl) (by kernel_rfl) (below_drew HC.out) ?_ ?_
      · refine StepsFr.cons ?_ ?_
        · intro u w hJ hF K hK
          clear hF
          have hf0 := (below_atB (i := 0) hJ hlt0).trans x0.c0
          have hf1 := (below_atB (i := 1) hJ hlt0).trans x0.c1
          go_simp
          exact hK.out _ _ hJ (Below.refl _ _) (p1.up hJ)
        refine StepsFr.cons ?_ ?_
        · intro u w hJ hF K hK
          clear hF
          have hf2 := (below_atB (i := 0) hJ hlt1).trans x1.c0
          have hf3 := (below_atB (i := 1) hJ hlt1).trans x1.c1
          go_simp
          exact hK.out _ _ hJ (Below.refl _ _) (p2.up hJ)
        refine StepsFr.cons ?_ ?_
        · intro u w hJ hF K hK
          have h42 : PInt (z1) 223 (u 42) w := facts_get hF 42 (by simp)
          have h43 : PInt (z2) 223 (u 43) w := facts_get hF 43 (by simp)
          clear hF
          go_simp
          refine (add_fact h42 h43 (by omega) (by omega)).mono ?_
          rintro e w' ⟨v, rfl, hv, hb⟩
          exact hK.out _ _ (below_then hJ hb hJ.size) hb (hv)
        refine StepsFr.cons ?_ ?_
        · intro u w hJ hF K hK
          clear hF
          have hf2 := (below_atB (i := 0) hJ hlt1).trans x1.c0
          have hf3 := (below_atB (i := 1) hJ hlt1).trans x1.c1
          go_simp
          exact hK.out _ _ hJ (Below.refl _ _) (p2.up hJ)
        refine StepsFr.cons ?_ ?_
        · intro u w hJ hF K hK
          clear hF
          have hf0 := (below_atB (i := 0) hJ hlt0).trans x0.c0
          have hf1 := (below_atB (i := 1) hJ hlt0).trans x0.c1
          go_simp
          exact hK.out _ _ hJ (Below.refl _ _) (p1.up hJ)
        refine StepsFr.cons ?_ ?_
        · intro u w hJ hF K hK
          have h45 : PInt (z2) 223 (u 45) w := facts_get hF 45 (by simp)
          have h46 : PInt (z1) 223 (u 46) w := facts_get hF 46 (by simp)
          clear hF
          go_simp
          refine (add_fact h45 h46 (by omega) (by omega)).mono ?_
          rintro e w' ⟨v, rfl, hv, hb⟩
          exact hK.out _ _ (below_then hJ hb hJ.size) hb (hv)
        refine StepsFr.cons ?_ ?_
        · intro u w hJ hF K hK
          have h44 : PInt ((z1) + (z2)) 447 (u 44) w := facts_get hF 44 (by simp)
          have h47 : PInt ((z2) + (z1)) 447 (u 47) w := facts_get hF 47 (by simp)
          clear hF
          go_simp
          refine (equal_fact h44 h47 (by omega) (by omega) (Int.add_comm _ _) (tab_up HTW.out hJ)).mono ?_
          rintro e w' ⟨rfl, hb⟩
          exact hK.out _ _ (below_then hJ hb hJ.size) hb (rfl)
        refine StepsFr.cons ?_ ?_
        · intro u w hJ hF K hK
          have h48 : u 48 = .bool true := facts_get hF 48 (by simp)
          clear hF
          simp only [h48] at hK ⊢
          clear h48
          go_simp
          exact hK.out _ _ hJ (Below.refl _ _) rfl
        refine StepsFr.cons ?_ ?_
        · intro u w hJ hF K hK
          have h49 : u 49 = .bool false := facts_get hF 49 (by simp)
          clear hF
          simp only [h49] at hK ⊢
          clear h49
          go_simp
          exact hK.out _ _ hJ (Below.refl _ _) (rfl)
        refine StepsFr.cons ?_ ?_
        · intro u w hJ hF K hK
          have h50 : u 50 = .bool false := facts_get hF 50 (by simp)
          clear hF
          simp only [h50] at hK ⊢
          clear h50
          have hf0 := (below_atB (i := 0) hJ hlt0).trans x0.c0
          have hf1 := (below_atB (i := 1) hJ hlt0).trans x0.c1
          go_simp
          exact hK.out _ _ hJ (Below.refl _ _) (p1.up hJ)
        refine StepsFr.cons ?_ ?_
        · intro u w hJ hF K hK
          have h50 : u 50 = .bool false := facts_get hF 50 (by simp)
          clear hF
          simp only [h50] at hK ⊢
          clear h50
          have hf2 := (below_atB (i := 0) hJ hlt1).trans x1.c0
          have hf3 := (below_atB (i := 1) hJ hlt1).trans x1.c1
          go_simp
          exact hK.out _ _ hJ (Below.refl _ _) (p2.up hJ)
        refine StepsFr.cons ?_ ?_
        · intro u w hJ hF K hK
          have h50 : u 50 = .bool false := facts_get hF 50 (by simp)
          have h51 : PInt (z1) 223 (u 51) w := facts_get hF 51 (by simp)
          have h52 : PInt (z2) 223 (u 52) w := facts_get hF 52 (by simp)
          clear hF
          simp only [h50] at hK ⊢
          clear h50
          go_simp
          refine (mul_fact h51 h52 (by omega) (by omega)).mono ?_
          rintro e w' ⟨v, rfl, hv, hb⟩
          exact hK.out _ _ (below_then hJ hb hJ.size) hb (hv)
        refine StepsFr.cons ?_ ?_
        · intro u w hJ hF K hK
          have h50 : u 50 = .bool false := facts_get hF 50 (by simp)
          clear hF
          simp only [h50] at hK ⊢
          clear h50
          have hf2 := (below_atB (i := 0) hJ hlt1).trans x1.c0
          have hf3 := (below_atB (i := 1) hJ hlt1).trans x1.c1
          go_simp
          exact hK.out _ _ hJ (Below.refl _ _) (p2.up hJ)
        refine StepsFr.cons ?_ ?_
        · intro u w hJ hF K hK
          have h50 : u 50 = .bool false := facts_get hF 50 (by simp)
          clear hF
          simp only [h50] at hK ⊢
          clear h50
          have hf0 := (below_atB (i := 0) hJ hlt0).trans x0.c0
          have hf1 := (below_atB (i := 1) hJ hlt0).trans x0.c1
          go_simp
          exact hK.out _ _ hJ (Below.refl _ _) (p1.up hJ)
        refine StepsFr.cons ?_ ?_
        · intro u w hJ hF K hK
          have h50 : u 50 = .bool false := facts_get hF 50 (by simp)
          have h54 : PInt (z2) 223 (u 54) w := facts_get hF 54 (by simp)
          have h55 : PInt (z1) 223 (u 55) w := facts_get hF 55 (by simp)
          clear hF
          simp only [h50] at hK ⊢
          clear h50
          go_simp
          refine (mul_fact h54 h55 (by omega) (by omega)).mono ?_
          rintro e w' ⟨v, rfl, hv, hb⟩
          exact hK.out _ _ (below_then hJ hb hJ.size) hb (hv)
        refine StepsFr.cons ?_ ?_
        · intro u w hJ hF K hK
          have h50 : u 50 = .bool false := facts_get hF 50 (by simp)
          have h53 : PInt ((z1) * (z2)) 446 (u 53) w := facts_get hF 53 (by simp)
          have h56 : PInt ((z2) * (z1)) 446 (u 56) w := facts_get hF 56 (by simp)
          clear hF
          simp only [h50] at hK ⊢
          clear h50
          go_simp
          refine (equal_fact h53 h56 (by omega) (by omega) (Int.mul_comm _ _) (tab_up HTW.out hJ)).mono ?_
          rintro e w' ⟨rfl, hb⟩
          exact hK.out _ _ (below_then hJ hb hJ.size) hb (rfl)
        refine StepsFr.cons ?_ ?_
        · intro u w hJ hF K hK
          have h50 : u 50 = .bool false := facts_get hF 50 (by simp)
          have h57 : u 57 = .bool true := facts_get hF 57 (by simp)
          clear hF
          simp only [h50, h57] at hK ⊢
          clear h50 h57
          go_simp
          exact hK.out _ _ hJ (Below.refl _ _) rfl
        refine StepsFr.cons ?_ ?_
        · intro u w hJ hF K hK
          have h50 : u 50 = .bool false := facts_get hF 50 (by simp)
          have h58 : u 58 = .bool false := facts_get hF 58 (by simp)
          clear hF
          simp only [h50, h58] at hK ⊢
          clear h50 h58
          go_simp
          exact hK.out _ _ hJ (Below.refl _ _) rfl
        exact StepsFr.nil
      · intro u w9 hJ9 hF
        have h59 : u 59 = .bool false := facts_get hF 59 (by simp [ringFL1, temps])
        clear hF
        simp only [h59]
        go_wp2_with fail
        have HC := Lib.hid hJ9
        clear hJ9 h59
        refine region_facts (ringFL2 z1 z2 z3) (fun w' => Below W.heap.size W w') [[], [], [60, 61], [], [62, 63], [], [], [], [66, 67], [65, 68], [64, 69], [70], [71], [72], [72], [72, 73, 74], [72], [72, 75, 76], [72], [72], [72], [72, 79, 80], [72, 78, 81], [72, 77, 82], [72, 83], [72, 84]] (fun u => by simp only [ringFL2, temps, List.map_cons, List.map_nil, fillL, List.setIfInBounds_toArray, List.set_cons_zero, List.set_cons_succ]; rfl) (by kernel_rfl) (by kernel_rfl) (by kernel_rfl) (below_drew HC.out) ?_ ?_
        · refine StepsFr.cons ?_ ?_
          · intro u w hJ hF K hK
            clear hF
            have hf0 := (below_atB (i := 0) hJ hlt0).trans x0.c0
            have hf1 := (below_atB (i := 1) hJ hlt0).trans x0.c1
            go_simp
            exact hK.out _ _ hJ (Below.refl _ _) (p1.up hJ)
          refine StepsFr.cons ?_ ?_
          · intro u w hJ hF K hK
            clear hF
            have hf2 := (below_atB (i := 0) hJ hlt1).trans x1.c0
            have hf3 := (below_atB (i := 1) hJ hlt1).trans x1.c1
            go_simp
            exact hK.out _ _ hJ (Below.refl _ _) (p2.up hJ)
          refine StepsFr.cons ?_ ?_
          · intro u w hJ hF K hK
            have h60 : PInt (z1) 223 (u 60) w := facts_get hF 60 (by simp)
            have h61 : PInt (z2) 223 (u 61) w := facts_get hF 61 (by simp)
            clear hF
            go_simp
            refine (add_fact h60 h61 (by omega) (by omega)).mono ?_
            rintro e w' ⟨v, rfl, hv, hb⟩
            exact hK.out _ _ (below_then hJ hb hJ.size) hb (hv)
          refine StepsFr.cons ?_ ?_
          · intro u w hJ hF K hK
            clear hF
            have hf4 := (below_atB (i := 0) hJ hlt2).trans b2.c0
            have hf5 := (below_atB (i := 1) hJ hlt2).trans b2.c1
            go_simp
            exact hK.out _ _ hJ (Below.refl _ _) (p3.up hJ)
          refine StepsFr.cons ?_ ?_
          · intro u w hJ hF K hK
            have h62 : PInt ((z1) + (z2)) 447 (u 62) w := facts_get hF 62 (by simp)
            have h63 : PInt (z3) 223 (u 63) w := facts_get hF 63 (by simp)
            clear hF
            go_simp
            refine (add_fact h62 h63 (by omega) (by omega)).mono ?_
            rintro e w' ⟨v, rfl, hv, hb⟩
            exact hK.out _ _ (below_then hJ hb hJ.size) hb (hv)
          refine StepsFr.cons ?_ ?_
          · intro u w hJ hF K hK
            clear hF
            have hf0 := (below_atB (i := 0) hJ hlt0).trans x0.c0
            have hf1 := (below_atB (i := 1) hJ hlt0).trans x0.c1
            go_simp
            exact hK.out _ _ hJ (Below.refl _ _) (p1.up hJ)
          refine StepsFr.cons ?_ ?_
          · intro u w hJ hF K hK
            clear hF
            have hf2 := (below_atB (i := 0) hJ hlt1).trans x1.c0
            have hf3 := (below_atB (i := 1) hJ hlt1).trans x1.c1
            go_simp
            exact hK.out _ _ hJ (Below.refl _ _) (p2.up hJ)
          refine StepsFr.cons ?_ ?_
          · intro u w hJ hF K hK
            clear hF
            have hf4 := (below_atB (i := 0) hJ hlt2).trans b2.c0
            have hf5 := (below_atB (i := 1) hJ hlt2).trans b2.c1
            go_simp
            exact hK.out _ _ hJ (Below.refl _ _) (p3.up hJ)
          refine StepsFr.cons ?_ ?_
          · intro u w hJ hF K hK
            have h66 : PInt (z2) 223 (u 66) w := facts_get hF 66 (by simp)
            have h67 : PInt (z3) 223 (u 67) w := facts_get hF 67 (by simp)
            clear hF
            go_simp
            refine (add_fact h66 h67 (by omega) (by omega)).mono ?_
            rintro e w' ⟨v, rfl, hv, hb⟩
            exact hK.out _ _ (below_then hJ hb hJ.size) hb (hv)
          refine StepsFr.cons ?_ ?_
          · intro u w hJ hF K hK
            have h65 : PInt (z1) 223 (u 65) w := facts_get hF 65 (by simp)
            have h68 : PInt ((z2) + (z3)) 447 (u 68) w := facts_get hF 68 (by simp)
            clear hF
            go_simp
            refine (add_fact h65 h68 (by omega) (by omega)).mono ?_
            rintro e w' ⟨v, rfl, hv, hb⟩
            exact hK.out _ _ (below_then hJ hb hJ.size) hb (hv)
          refine StepsFr.cons ?_ ?_
          · intro u w hJ hF K hK
            have h64 : PInt (((z1) + (z2)) + (z3)) 671 (u 64) w := facts_get hF 64 (by simp)
            have h69 : PInt ((z1) + ((z2) + (z3))) 671 (u 69) w := facts_get hF 69 (by simp)
            clear hF
            go_simp
            refine (equal_fact h64 h69 (by omega) (by omega) (Int.add_assoc _ _ _) (tab_up HTW.out hJ)).mono ?_
            rintro e w' ⟨rfl, hb⟩
            exact hK.out _ _ (below_then hJ hb hJ.size) hb (rfl)
          refine StepsFr.cons ?_ ?_
          · intro u w hJ hF K hK
            have h70 : u 70 = .bool true := facts_get hF 70 (by simp)
            clear hF
            simp only [h70] at hK ⊢
            clear h70
            go_simp
            exact hK.out _ _ hJ (Below.refl _ _) rfl
          refine StepsFr.cons ?_ ?_
          · intro u w hJ hF K hK
            have h71 : u 71 = .bool false := facts_get hF 71 (by simp)
            clear hF
            simp only [h71] at hK ⊢
            clear h71
            go_simp
            exact hK.out _ _ hJ (Below.refl _ _) (rfl)
          refine StepsFr.cons ?_ ?_
          · intro u w hJ hF K hK
            have h72 : u 72 = .bool false := facts_get hF 72 (by simp)
            clear hF
            simp only [h72] at hK ⊢
            clear h72
            have hf0 := (below_atB (i := 0) hJ hlt0).trans x0.c0
            have hf1 := (below_atB (i := 1) hJ hlt0).trans x0.c1
            go_simp
            exact hK.out _ _ hJ (Below.refl _ _) (p1.up hJ)
          refine StepsFr.cons ?_ ?_
          · intro u w hJ hF K hK
            have h72 : u 72 = .bool false := facts_get hF 72 (by simp)
            clear hF
            simp only [h72] at hK ⊢
            clear h72
            have hf2 := (below_atB (i := 0) hJ hlt1).trans x1.c0
            have hf3 := (below_atB (i := 1) hJ hlt1).trans x1.c1
            go_simp
            exact hK.out _ _ hJ (Below.refl _ _) (p2.up hJ)
          refine StepsFr.cons ?_ ?_
          · intro u w hJ hF K hK
            have h72 : u 72 = .bool false := facts_get hF 72 (by simp)
            have h73 : PInt (z1) 223 (u 73) w := facts_get hF 73 (by simp)
            have h74 : PInt (z2) 223 (u 74) w := facts_get hF 74 (by simp)
            clear hF
            simp only [h72] at hK ⊢
            clear h72
            go_simp
            refine (mul_fact h73 h74 (by omega) (by omega)).mono ?_
            rintro e w' ⟨v, rfl, hv, hb⟩
            exact hK.out _ _ (below_then hJ hb hJ.size) hb (hv)
          refine StepsFr.cons ?_ ?_
          · intro u w hJ hF K hK
            have h72 : u 72 = .bool false := facts_get hF 72 (by simp)
            clear hF
            simp only [h72] at hK ⊢
            clear h72
            have hf4 := (below_atB (i := 0) hJ hlt2).trans b2.c0
            have hf5 := (below_atB (i := 1) hJ hlt2).trans b2.c1
            go_simp
            exact hK.out _ _ hJ (Below.refl _ _) (p3.up hJ)
          refine StepsFr.cons ?_ ?_
          · intro u w hJ hF K hK
            have h72 : u 72 = .bool false := facts_get hF 72 (by simp)
            have h75 : PInt ((z1) * (z2)) 446 (u 75) w := facts_get hF 75 (by simp)
            have h76 : PInt (z3) 223 (u 76) w := facts_get hF 76 (by simp)
            clear hF
            simp only [h72] at hK ⊢
            clear h72
            go_simp
            refine (mul_fact h75 h76 (by omega) (by omega)).mono ?_
            rintro e w' ⟨v, rfl, hv, hb⟩
            exact hK.out _ _ (below_then hJ hb hJ.size) hb (hv)
          refine StepsFr.cons ?_ ?_
          · intro u w hJ hF K hK
            have h72 : u 72 = .bool false := facts_get hF 72 (by simp)
            clear hF
            simp only [h72] at hK ⊢
            clear h72
            have hf0 := (below_atB (i := 0) hJ hlt0).trans x0.c0
            have hf1 := (below_atB (i := 1) hJ hlt0).trans x0.c1
            go_simp
            exact hK.out _ _ hJ (Below.refl _ _) (p1.up hJ)
          refine StepsFr.cons ?_ ?_
          · intro u w hJ hF K hK
            have h72 : u 72 = .bool false := facts_get hF 72 (by simp)
            clear hF
            simp only [h72] at hK ⊢
            clear h72
            have hf2 := (below_atB (i := 0) hJ hlt1).trans x1.c0
            have hf3 := (below_atB (i := 1) hJ hlt1).trans x1.c1
            go_simp
            exact hK.out _ _ hJ (Below.refl _ _) (p2.up hJ)
          refine StepsFr.cons ?_ ?_
          · intro u w hJ hF K hK
            have h72 : u 72 = .bool false := facts_get hF 72 (by simp)
            clear hF
            simp only [h72] at hK ⊢
            clear h72
            have hf4 := (below_atB (i := 0) hJ hlt2).trans b2.c0
            have hf5 := (below_atB (i := 1) hJ hlt2).trans b2.c1
            go_simp
            exact hK.out _ _ hJ (Below.refl _ _) (p3.up hJ)
          refine StepsFr.cons ?_ ?_
          · intro u w hJ hF K hK
            have h72 : u 72 = .bool false := facts_get hF 72 (by simp)
            have h79 : PInt (z2) 223 (u 79) w := facts_get hF 79 (by simp)
            have h80 : PInt (z3) 223 (u 80) w := facts_get hF 80 (by simp)
            clear hF
            simp only [h72] at hK ⊢
            clear h72
            go_simp
            refine (mul_fact h79 h80 (by omega) (by omega)).mono ?_
            rintro e w' ⟨v, rfl, hv, hb⟩
            exact hK.out _ _ (below_then hJ hb hJ.size) hb (hv)
          refine StepsFr.cons ?_ ?_
          · intro u w hJ hF K hK
            have h72 : u 72 = .bool false := facts_get hF 72 (by simp)
            have h78 : PInt (z1) 223 (u 78) w := facts_get hF 78 (by simp)
            have h81 : PInt ((z2) * (z3)) 446 (u 81) w := facts_get hF 81 (by simp)
            clear hF
            simp only [h72] at hK ⊢
            clear h72
            go_simp
            refine (mul_fact h78 h81 (by omega) (by omega)).mono ?_
            rintro e w' ⟨v, rfl, hv, hb⟩
            exact hK.out _ _ (below_then hJ hb hJ.size) hb (hv)
          refine StepsFr.cons ?_ ?_
          · intro u w hJ hF K hK
            have h72 : u 72 = .bool false := facts_get hF 72 (by simp)
            have h77 : PInt (((z1) * (z2)) * (z3)) 669 (u 77) w := facts_get hF 77 (by simp)
            have h82 : PInt ((z1) * ((z2) * (z3))) 669 (u 82) w := facts_get hF 82 (by simp)
            clear hF
            simp only [h72] at hK ⊢
            clear h72
            go_simp
            refine (equal_fact h77 h82 (by omega) (by omega) (Int.mul_assoc _ _ _) (tab_up HTW.out hJ)).mono ?_
            rintro e w' ⟨rfl, hb⟩
            exact hK.out _ _ (below_then hJ hb hJ.size) hb (rfl)
          refine StepsFr.cons ?_ ?_
          · intro u w hJ hF K hK
            have h72 : u 72 = .bool false := facts_get hF 72 (by simp)
            have h83 : u 83 = .bool true := facts_get hF 83 (by simp)
            clear hF
            simp only [h72, h83] at hK ⊢
            clear h72 h83
            go_simp
            exact hK.out _ _ hJ (Below.refl _ _) rfl
          refine StepsFr.cons ?_ ?_
          · intro u w hJ hF K hK
            have h72 : u 72 = .bool false := facts_get hF 72 (by simp)
            have h84 : u 84 = .bool false := facts_get hF 84 (by simp)
            clear hF
            simp only [h72, h84] at hK ⊢
            clear h72 h84
            go_simp
            exact hK.out _ _ hJ (Below.refl _ _) rfl
          exact StepsFr.nil
        · intro u w9 hJ9 hF
          have h85 : u 85 = .bool false := facts_get hF 85 (by simp [ringFL2, temps])
          clear hF
          simp only [h85]
          go_wp2_with fail
          have HC := Lib.hid hJ9
          clear hJ9 h85
          refine region_facts (ringFL3 z1 z2 z3) (fun w' => Below W.heap.size W w') [[], [], [], [87, 88], [86, 89], [], [], [91, 92], [], [], [94, 95], [93, 96], [90, 97], [98], [99], [99], [99, 100, 101], [99], [99], [99, 104], [99, 103, 105], [99, 102, 106], [99, 107], [108], [109], [109], [109, 110, 111], [109, 112], [109, 113], [109, 114], [115]] (fun u => by simp only [ringFL3, temps, List.map_cons, List.map_nil, fillL, List.setIfInBounds_toArray, List.set_cons_zero, List.set_cons_succ]; rfl) (by kernel_rfl) (by kernel_rfl) (by kernel_rfl) (below_drew HC.out) ?_ ?_
          · refine StepsFr.cons ?_ ?_
            · intro u w hJ hF K hK
              clear hF
              have hf0 := (below_atB (i := 0) hJ hlt0).trans x0.c0
              have hf1 := (below_atB (i := 1) hJ hlt0).trans x0.c1
              go_simp
              exact hK.out _ _ hJ (Below.refl _ _) (p1.up hJ)
            refine StepsFr.cons ?_ ?_
            · intro u w hJ hF K hK
              clear hF
              have hf2 := (below_atB (i := 0) hJ hlt1).trans x1.c0
              have hf3 := (below_atB (i := 1) hJ hlt1).trans x1.c1
              go_simp
              exact hK.out _ _ hJ (Below.refl _ _) (p2.up hJ)
            refine StepsFr.cons ?_ ?_
            · intro u w hJ hF K hK
              clear hF
              have hf4 := (below_atB (i := 0) hJ hlt2).trans b2.c0
              have hf5 := (below_atB (i := 1) hJ hlt2).trans b2.c1
              go_simp
              exact hK.out _ _ hJ (Below.refl _ _) (p3.up hJ)
            refine StepsFr.cons ?_ ?_
            · intro u w hJ hF K hK
              have h87 : PInt (z2) 223 (u 87) w := facts_get hF 87 (by simp)
              have h88 : PInt (z3) 223 (u 88) w := facts_get hF 88 (by simp)
              clear hF
              go_simp
              refine (add_fact h87 h88 (by omega) (by omega)).mono ?_
              rintro e w' ⟨v, rfl, hv, hb⟩
              exact hK.out _ _ (below_then hJ hb hJ.size) hb (hv)
            refine StepsFr.cons ?_ ?_
            · intro u w hJ hF K hK
              have h86 : PInt (z1) 223 (u 86) w := facts_get hF 86 (by simp)
              have h89 : PInt ((z2) + (z3)) 447 (u 89) w := facts_get hF 89 (by simp)
              clear hF
              go_simp
              refine (mul_fact h86 h89 (by omega) (by omega)).mono ?_
              rintro e w' ⟨v, rfl, hv, hb⟩
              exact hK.out _ _ (below_then hJ hb hJ.size) hb (hv)
            refine StepsFr.cons ?_ ?_
            · intro u w hJ hF K hK
              clear hF
              have hf0 := (below_atB (i := 0) hJ hlt0).trans x0.c0
              have hf1 := (below_atB (i := 1) hJ hlt0).trans x0.c1
              go_simp
              exact hK.out _ _ hJ (Below.refl _ _) (p1.up hJ)
            refine StepsFr.cons ?_ ?_
            · intro u w hJ hF K hK
              clear hF
              have hf2 := (below_atB (i := 0) hJ hlt1).trans x1.c0
              have hf3 := (below_atB (i := 1) hJ hlt1).trans x1.c1
              go_simp
              exact hK.out _ _ hJ (Below.refl _ _) (p2.up hJ)
            refine StepsFr.cons ?_ ?_
            · intro u w hJ hF K hK
              have h91 : PInt (z1) 223 (u 91) w := facts_get hF 91 (by simp)
              have h92 : PInt (z2) 223 (u 92) w := facts_get hF 92 (by simp)
              clear hF
              go_simp
              refine (mul_fact h91 h92 (by omega) (by omega)).mono ?_
              rintro e w' ⟨v, rfl, hv, hb⟩
              exact hK.out _ _ (below_then hJ hb hJ.size) hb (hv)
            refine StepsFr.cons ?_ ?_
            · intro u w hJ hF K hK
              clear hF
              have hf0 := (below_atB (i := 0) hJ hlt0).trans x0.c0
              have hf1 := (below_atB (i := 1) hJ hlt0).trans x0.c1
              go_simp
              exact hK.out _ _ hJ (Below.refl _ _) (p1.up hJ)
            refine StepsFr.cons ?_ ?_
            · intro u w hJ hF K hK
              clear hF
              have hf4 := (below_atB (i := 0) hJ hlt2).trans b2.c0
              have hf5 := (below_atB (i := 1) hJ hlt2).trans b2.c1
              go_simp
              exact hK.out _ _ hJ (Below.refl _ _) (p3.up hJ)
            refine StepsFr.cons ?_ ?_
            · intro u w hJ hF K hK
              have h94 : PInt (z1) 223 (u 94) w := facts_get hF 94 (by simp)
              have h95 : PInt (z3) 223 (u 95) w := facts_get hF 95 (by simp)
              clear hF
              go_simp
              refine (mul_fact h94 h95 (by omega) (by omega)).mono ?_
              rintro e w' ⟨v, rfl, hv, hb⟩
              exact hK.out _ _ (below_then hJ hb hJ.size) hb (hv)
            refine StepsFr.cons ?_ ?_
            · intro u w hJ hF K hK
              have h93 : PInt ((z1) * (z2)) 446 (u 93) w := facts_get hF 93 (by simp)
              have h96 : PInt ((z1) * (z3)) 446 (u 96) w := facts_get hF 96 (by simp)
              clear hF
              go_simp
              refine (add_fact h93 h96 (by omega) (by omega)).mono ?_
              rintro e w' ⟨v, rfl, hv, hb⟩
              exact hK.out _ _ (below_then hJ hb hJ.size) hb (hv)
            refine StepsFr.cons ?_ ?_
            · intro u w hJ hF K hK
              have h90 : PInt ((z1) * ((z2) + (z3))) 670 (u 90) w := facts_get hF 90 (by simp)
              have h97 : PInt (((z1) * (z2)) + ((z1) * (z3))) 893 (u 97) w := facts_get hF 97 (by simp)
              clear hF
              go_simp
              refine (equal_fact h90 h97 (by omega) (by omega) (Int.mul_add _ _ _) (tab_up HTW.out hJ)).mono ?_
              rintro e w' ⟨rfl, hb⟩
              exact hK.out _ _ (below_then hJ hb hJ.size) hb (rfl)
            refine StepsFr.cons ?_ ?_
            · intro u w hJ hF K hK
              have h98 : u 98 = .bool true := facts_get hF 98 (by simp)
              clear hF
              simp only [h98] at hK ⊢
              clear h98
              go_simp
              exact hK.out _ _ hJ (Below.refl _ _) (rfl)
            refine StepsFr.cons ?_ ?_
            · intro u w hJ hF K hK
              have h99 : u 99 = .bool true := facts_get hF 99 (by simp)
              clear hF
              simp only [h99] at hK ⊢
              clear h99
              have hf0 := (below_atB (i := 0) hJ hlt0).trans x0.c0
              have hf1 := (below_atB (i := 1) hJ hlt0).trans x0.c1
              go_simp
              exact hK.out _ _ hJ (Below.refl _ _) (p1.up hJ)
            refine StepsFr.cons ?_ ?_
            · intro u w hJ hF K hK
              have h99 : u 99 = .bool true := facts_get hF 99 (by simp)
              clear hF
              simp only [h99] at hK ⊢
              clear h99
              have hf2 := (below_atB (i := 0) hJ hlt1).trans x1.c0
              have hf3 := (below_atB (i := 1) hJ hlt1).trans x1.c1
              go_simp
              exact hK.out _ _ hJ (Below.refl _ _) (p2.up hJ)
            refine StepsFr.cons ?_ ?_
            · intro u w hJ hF K hK
              have h99 : u 99 = .bool true := facts_get hF 99 (by simp)
              have h100 : PInt (z1) 223 (u 100) w := facts_get hF 100 (by simp)
              have h101 : PInt (z2) 223 (u 101) w := facts_get hF 101 (by simp)
              clear hF
              simp only [h99] at hK ⊢
              clear h99
              go_simp
              refine (sub_fact h100 h101 (by omega) (by omega)).mono ?_
              rintro e w' ⟨v, rfl, hv, hb⟩
              exact hK.out _ _ (below_then hJ hb hJ.size) hb (hv)
            refine StepsFr.cons ?_ ?_
            · intro u w hJ hF K hK
              have h99 : u 99 = .bool true := facts_get hF 99 (by simp)
              clear hF
              simp only [h99] at hK ⊢
              clear h99
              have hf0 := (below_atB (i := 0) hJ hlt0).trans x0.c0
              have hf1 := (below_atB (i := 1) hJ hlt0).trans x0.c1
              go_simp
              exact hK.out _ _ hJ (Below.refl _ _) (p1.up hJ)
            refine StepsFr.cons ?_ ?_
            · intro u w hJ hF K hK
              have h99 : u 99 = .bool true := facts_get hF 99 (by simp)
              clear hF
              simp only [h99] at hK ⊢
              clear h99
              have hf2 := (below_atB (i := 0) hJ hlt1).trans x1.c0
              have hf3 := (below_atB (i := 1) hJ hlt1).trans x1.c1
              go_simp
              exact hK.out _ _ hJ (Below.refl _ _) (p2.up hJ)
            refine StepsFr.cons ?_ ?_
            · intro u w hJ hF K hK
              have h99 : u 99 = .bool true := facts_get hF 99 (by simp)
              have h104 : PInt (z2) 223 (u 104) w := facts_get hF 104 (by simp)
              clear hF
              simp only [h99] at hK ⊢
              clear h99
              go_simp
              refine (neg_fact h104 (by omega)).mono ?_
              rintro e w' ⟨v, rfl, hv, hb⟩
              exact hK.out _ _ (below_then hJ hb hJ.size) hb (hv)
            refine StepsFr.cons ?_ ?_
            · intro u w hJ hF K hK
              have h99 : u 99 = .bool true := facts_get hF 99 (by simp)
              have h103 : PInt (z1) 223 (u 103) w := facts_get hF 103 (by simp)
              have h105 : PInt (-(z2)) 223 (u 105) w := facts_get hF 105 (by simp)
              clear hF
              simp only [h99] at hK ⊢
              clear h99
              go_simp
              refine (add_fact h103 h105 (by omega) (by omega)).mono ?_
              rintro e w' ⟨v, rfl, hv, hb⟩
              exact hK.out _ _ (below_then hJ hb hJ.size) hb (hv)
            refine StepsFr.cons ?_ ?_
            · intro u w hJ hF K hK
              have h99 : u 99 = .bool true := facts_get hF 99 (by simp)
              have h102 : PInt ((z1) - (z2)) 447 (u 102) w := facts_get hF 102 (by simp)
              have h106 : PInt ((z1) + (-(z2))) 447 (u 106) w := facts_get hF 106 (by simp)
              clear hF
              simp only [h99] at hK ⊢
              clear h99
              go_simp
              refine (equal_fact h102 h106 (by omega) (by omega) (Int.sub_eq_add_neg) (tab_up HTW.out hJ)).mono ?_
              rintro e w' ⟨rfl, hb⟩
              exact hK.out _ _ (below_then hJ hb hJ.size) hb (rfl)
            refine StepsFr.cons ?_ ?_
            · intro u w hJ hF K hK
              have h99 : u 99 = .bool true := facts_get hF 99 (by simp)
              have h107 : u 107 = .bool true := facts_get hF 107 (by simp)
              clear hF
              simp only [h99, h107] at hK ⊢
              clear h99 h107
              go_simp
              exact hK.out _ _ hJ (Below.refl _ _) rfl
            refine StepsFr.cons ?_ ?_
            · intro u w hJ hF K hK
              have h108 : u 108 = .bool true := facts_get hF 108 (by simp)
              clear hF
              simp only [h108] at hK ⊢
              clear h108
              go_simp
              exact hK.out _ _ hJ (Below.refl _ _) (rfl)
            refine StepsFr.cons ?_ ?_
            · intro u w hJ hF K hK
              have h109 : u 109 = .bool true := facts_get hF 109 (by simp)
              clear hF
              simp only [h109] at hK ⊢
              clear h109
              have hf0 := (below_atB (i := 0) hJ hlt0).trans x0.c0
              have hf1 := (below_atB (i := 1) hJ hlt0).trans x0.c1
              go_simp
              exact hK.out _ _ hJ (Below.refl _ _) (p1.up hJ)
            refine StepsFr.cons ?_ ?_
            · intro u w hJ hF K hK
              have h109 : u 109 = .bool true := facts_get hF 109 (by simp)
              clear hF
              simp only [h109] at hK ⊢
              clear h109
              have hf0 := (below_atB (i := 0) hJ hlt0).trans x0.c0
              have hf1 := (below_atB (i := 1) hJ hlt0).trans x0.c1
              go_simp
              exact hK.out _ _ hJ (Below.refl _ _) (p1.up hJ)
            refine StepsFr.cons ?_ ?_
            · intro u w hJ hF K hK
              have h109 : u 109 = .bool true := facts_get hF 109 (by simp)
              have h110 : PInt (z1) 223 (u 110) w := facts_get hF 110 (by simp)
              have h111 : PInt (z1) 223 (u 111) w := facts_get hF 111 (by simp)
              clear hF
              simp only [h109] at hK ⊢
              clear h109
              go_simp
              refine (sub_fact h110 h111 (by omega) (by omega)).mono ?_
              rintro e w' ⟨v, rfl, hv, hb⟩
              exact hK.out _ _ (below_then hJ hb hJ.size) hb (hv)
            refine StepsFr.cons ?_ ?_
            · intro u w hJ hF K hK
              have h109 : u 109 = .bool true := facts_get hF 109 (by simp)
              have h112 : PInt ((z1) - (z1)) 447 (u 112) w := facts_get hF 112 (by simp)
              clear hF
              simp only [h109] at hK ⊢
              clear h109
              go_simp
              refine (sign_is h112 (cmp_zero z1)).mono ?_
              rintro e w' ⟨rfl, hb⟩
              exact hK.out _ _ (below_then hJ hb hJ.size) hb (rfl)
            refine StepsFr.cons ?_ ?_
            · intro u w hJ hF K hK
              have h109 : u 109 = .bool true := facts_get hF 109 (by simp)
              have h113 : u 113 = .int .i64 (0) := facts_get hF 113 (by simp)
              clear hF
              simp only [h109, h113] at hK ⊢
              clear h109 h113
              go_simp
              exact hK.out _ _ hJ (Below.refl _ _) rfl
            refine StepsFr.cons ?_ ?_
            · intro u w hJ hF K hK
              have h109 : u 109 = .bool true := facts_get hF 109 (by simp)
              have h114 : u 114 = .bool true := facts_get hF 114 (by simp)
              clear hF
              simp only [h109, h114] at hK ⊢
              clear h109 h114
              go_simp
              exact hK.out _ _ hJ (Below.refl _ _) rfl
            refine StepsFr.cons ?_ ?_
            · intro u w hJ hF K hK
              have h115 : u 115 = .bool true := facts_get hF 115 (by simp)
              clear hF
              simp only [h115] at hK ⊢
              clear h115
              go_simp
              exact hK.out _ _ hJ (Below.refl _ _) (rfl)
            exact StepsFr.nil
          · intro u w9 hJ9 hF
            have h6 : u 6 = .bool true := facts_get hF 6 (by simp [ringFL3, temps])
            clear hF
            go_wp2
            go_ret
            exact ⟨by first | rfl | (show Ending.returned (u 6) = _; rw [h6]), HWW.out.trans (Below.less hJ9 HWW.out.size)⟩
end Go.Proofs.YtbfbijokhlkekaaDoor
