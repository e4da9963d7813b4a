/- IntegerDivisors: for every three texts the statement about greatest common divisors returns true. -/
import Derived.Test.YtbfbijokhlkekaaDoorW5
namespace Go.Proofs.YtbfbijokhlkekaaDoor
open Go.RowKit

theorem gcd_step1 (x y : Int) : (Int.gcd x y : Int) = (Int.gcd y (x - y) : Int) := by
  congr 1
  rw [Int.gcd_comm x y]
  apply Nat.dvd_antisymm
  · exact Int.dvd_gcd (Int.gcd_dvd_left y x) (Int.dvd_sub (Int.gcd_dvd_right y x) (Int.gcd_dvd_left y x))
  · have h1 := Int.gcd_dvd_left y (x - y)
    have h2 := Int.gcd_dvd_right y (x - y)
    have h3 : ((Int.gcd y (x - y) : Nat) : Int) ∣ x := by
      have := Int.dvd_add h2 h1
      rwa [Int.sub_add_cancel] at this
    exact Int.dvd_gcd h1 h3
theorem gcd_step2 (x y z : Int) : (Int.gcd (z * x) (z * y) : Int) = (z.natAbs : Int) * (Int.gcd x y : Int) := by
  rw [Int.gcd_mul_left, Int.natCast_mul]
theorem tmod_gcd1 (x y : Int) : Int.tmod x (Int.gcd x y : Int) = 0 := Int.tmod_eq_zero_of_dvd (Int.gcd_dvd_left x y)
theorem tmod_gcd2 (x y : Int) : Int.tmod y (Int.gcd x y : Int) = 0 := Int.tmod_eq_zero_of_dvd (Int.gcd_dvd_right x y)
theorem gcd_zero' (x y : Int) (h : (Int.gcd x y : Int) = 0) : x = 0 ∧ y = 0 := by
  have := Int.gcd_eq_zero_iff.1 (show Int.gcd x y = 0 by omega)
  exact this

theorem gcd_fact2 {x y : Int} {n m : Nat} {a b : Value} {w : World} (h1 : PInt x n a w) (h2 : PInt y m b w) (hn : n ≤ 380000) (hm : m ≤ 380000) :
    Calls Tryd.prog 38 #[a, b] w fun e w' => ∃ (k : Bool) (A : Option Addr) (c l : Nat), e = .returned (.agg #[.bool k, .slice A l c]) ∧ PInt (Int.gcd x y : Int) (n + m) (.agg #[.bool k, .slice A l c]) w' ∧ Below w.heap.size w w' := by
  obtain ⟨k, A, c, L, rfl, i1, rfl, l1⟩ := h1
  obtain ⟨k2, A2, c2, L2, rfl, i2, rfl, l2⟩ := h2
  refine (gcd_any k k2 A A2 c c2 L L2 w (by omega) (by omega) i1 i2).mono ?_
  rintro e w' ⟨q, B, d, R, rfl, hi, hz, hl, hb⟩
  exact ⟨_, _, _, _, rfl, ⟨q, B, d, R, rfl, hi, hz, by omega⟩, hb⟩
theorem quoRem_fact {x y : Int} {n m : Nat} {a b : Value} {w : World} (h1 : PInt x n a w) (h2 : PInt y m b w) (hn : n ≤ 380000) (hm : m ≤ 380000) (hy : y ≠ 0) :
    Calls Tryd.prog 34 #[a, b] w fun e w' => ∃ (k : Bool) (A : Option Addr) (c l : Nat) (k' : Bool) (A' : Option Addr) (c' l' : Nat), e = .returned (.tuple #[.agg #[.bool k, .slice A l c], .agg #[.bool k', .slice A' l' c'], .int .i64 0]) ∧
      PInt (Int.tmod x y) (n + 1) (.agg #[.bool k', .slice A' l' c']) w' ∧ Below w.heap.size w w' := by
  obtain ⟨k, A, c, L, rfl, i1, rfl, l1⟩ := h1
  obtain ⟨k2, A2, c2, L2, rfl, i2, rfl, l2⟩ := h2
  have hpos : 0 < List.length L2 := by
    rcases Nat.eq_zero_or_pos (List.length L2) with h | h
    · exfalso; apply hy; unfold zI; rw [val9_nil h]; simp
    · exact h
  refine (quoRem_pos k k2 A A2 c c2 L L2 w (by omega) (by omega) hpos i1 i2).mono ?_
  rintro e w' ⟨k5, A5, c5, Q, k6, A6, c6, R, rfl, hi5, hi6, hz5, hz6, hl5, hl6, hb⟩
  exact ⟨_, _, _, _, _, _, _, _, rfl, ⟨k6, A6, c6, R, rfl, hi6, hz6, by omega⟩, hb⟩
theorem one_box (w : World) (x0 y0 : Value) (t0 : TypeId) : Box (w.alloc (.cells #[x0, y0] t0)) w.heap.size x0 y0 ∧ (w.alloc (.cells #[x0, y0] t0)).heap.size = w.heap.size + 1 ∧ Below w.heap.size w (w.alloc (.cells #[x0, y0] t0)) :=
  ⟨Box.new w x0 y0 t0, by simp, below_alloc_new _⟩
def dvsFL (z1 z2 z3 : Int) : List (Nat × Fact) := [(67, .int ((Int.gcd z1 z2 : Int)) 446), (68, .ref (z1) 500), (69, .ref (z2) 500), (70, .ref ((Int.gcd (z1) (z2) : Int)) 1000), (71, .is (.bool true)), (72, .is (.bool false)), (73, .is (.bool false)), (74, .int ((Int.gcd z1 z2 : Int)) 446), (75, .int (z2) 223), (76, .int (z1) 223), (77, .int (z2) 223), (78, .int ((z1) - (z2)) 447), (79, .int ((Int.gcd (z2) ((z1) - (z2)) : Int)) 670), (80, .is (.bool true)), (81, .is (.bool false)), (82, .is (.bool false)), (83, .is (.bool false)), (84, .int (z3) 223), (85, .int (z1) 223), (86, .int ((z3) * (z1)) 446), (87, .int (z3) 223), (88, .int (z2) 223), (89, .int ((z3) * (z2)) 446), (90, .int ((Int.gcd ((z3) * (z1)) ((z3) * (z2)) : Int)) 892), (91, .int (z3) 223), (92, .int (((z3).natAbs : Int)) 223), (93, .int ((Int.gcd z1 z2 : Int)) 446), (94, .int ((((z3).natAbs : Int)) * ((Int.gcd z1 z2 : Int))) 669), (95, .is (.bool true)), (96, .is (.bool false)), (97, .is (.bool false))]

set_option maxRecDepth 20000 in
set_option maxHeartbeats 12800000 in
theorem law_divisors (s t u : ByteArray) (w : World) (htab : Tab w.heap.size w) :
    Calls Tryd.prog 10 #[.string s, .string t, .string u] w fun e w' => e = .returned (.bool true) ∧ Below w.heap.size w w' := by
  have HT := Lib.hid htab
  have HBO := Lib.hid (fun W => both_any s t W)
  have HBU := Lib.hid (fun W => both_any u ⟨#[48]⟩ W)
  clear htab
  go_enter Tryd.func10, Tryd.ntmps10
  go_wp2_with fail
  refine (awake_any w HT.out).mono ?_
  rintro e w1 ⟨rfl, hb1⟩
  go_wp2_with fail
  refine (HBO.out _).mono ?_
  rintro e w2 ⟨k1, A1, c1, L1, k2, A2, c2, L2, k3, A3, c3, L3, k4, A4, c4, L4, ok, rfl, I1, I2, M1, M2, hl1, hl2, hl3, hl4, hok, hb2⟩
  have hb12 := hb1.trans (Below.less hb2 hb1.size)
  clear hb1 hb2
  have F := four_boxes w2 (.bool k1) (.slice A1 (List.length L1) c1) (.bool k2) (.slice A2 (List.length L2) c2) (.bool k3) (.slice A3 (List.length L3) c3) (.bool k4) (.slice A4 (List.length L4) c4) 25 25 31 31
  go_wp2_with fail
  change Calls Tryd.prog 22 #[.string u, .string ⟨#[48]⟩] ((((w2.alloc (.cells #[.bool k1, .slice A1 (List.length L1) c1] 25)).alloc (.cells #[.bool k2, .slice A2 (List.length L2) c2] 25)).alloc (.cells #[.bool k3, .slice A3 (List.length L3) c3] 31)).alloc (.cells #[.bool k4, .slice A4 (List.length L4) c4] 31)) _
  generalize (((w2.alloc (.cells #[.bool k1, .slice A1 (List.length L1) c1] 25)).alloc (.cells #[.bool k2, .slice A2 (List.length L2) c2] 25)).alloc (.cells #[.bool k3, .slice A3 (List.length L3) c3] 31)).alloc (.cells #[.bool k4, .slice A4 (List.length L4) c4] 31) = V at *
  obtain ⟨b0, b1, b2, b3, hsz, hbw⟩ := F
  have hbV := hb12.trans (Below.less hbw hb12.size)
  have J1 := I1.up hbw
  have J2 := I2.up hbw
  have J3 := M1.up hbw
  have J4 := M2.up hbw
  clear hb12 hbw I1 I2 M1 M2
  refine (HBU.out _).mono ?_
  rintro e w3 ⟨k5, A5, c5, L5, k6, A6, c6, L6, k7, A7, c7, L7, k8, A8, c8, L8, ok2, rfl, I5, -, -, -, hl5, -, -, -, -, hb3⟩
  have hb13 := hbV.trans (Below.less hb3 hbV.size)
  have J1' := J1.up hb3
  have J2' := J2.up hb3
  have J3' := J3.up hb3
  have J4' := J4.up hb3
  have x0 := b0.below hb3 (by omega)
  have x1 := b1.below hb3 (by omega)
  have x2 := b2.below hb3 (by omega)
  have x3 := b3.below hb3 (by omega)
  have hsz3 := hb3.size
  clear b0 b1 b2 b3 J1 J2 J3 J4 hb3 hbV
  have F := four_boxes w3 (.bool k5) (.slice A5 (List.length L5) c5) (.bool k6) (.slice A6 (List.length L6) c6) (.bool k7) (.slice A7 (List.length L7) c7) (.bool k8) (.slice A8 (List.length L8) c8) 25 25 31 31
  rw [hsz] at hsz3
  clear hsz
  cases ok
  · have HB := Lib.hid hb13
    have HX0 := Lib.hid x0
    have HX1 := Lib.hid x1
    have HX2 := Lib.hid x2
    have HX3 := Lib.hid x3
    clear hb13 x0 x1 x2 x3
    go_wp2_with fail
    go_ret
    exact ⟨rfl, HB.out.trans (Below.less F.2.2.2.2.2 HB.out.size)⟩
  · cases ok2
    · have HB := Lib.hid hb13
      have HX0 := Lib.hid x0
      have HX1 := Lib.hid x1
      have HX2 := Lib.hid x2
      have HX3 := Lib.hid x3
      clear hb13 x0 x1 x2 x3
      go_wp2_with fail
      go_ret
      exact ⟨rfl, HB.out.trans (Below.less F.2.2.2.2.2 HB.out.size)⟩
    · have HB := Lib.hid hb13
      have HX0 := Lib.hid x0
      have HX1 := Lib.hid x1
      have HX2 := Lib.hid x2
      have HX3 := Lib.hid x3
      clear hb13 x0 x1 x2 x3
      obtain ⟨e1, e2, q1, q2, q3, q4, q5, q6, q7, q8⟩ := hok rfl
      have HZ13 : Hid (zI k1 L1 = zR k3 L3) := (textZ_I q1 q2).trans (textZ_R q5 q6).symm
      have HZ24 : Hid (zI k2 L2 = zR k4 L4) := (textZ_I q3 q4).trans (textZ_R q7 q8).symm
      clear hok e1 e2 q1 q2 q3 q4 q5 q6 q7 q8
      by_cases ls : (200 : Int) < (s.size : Int)
      · have ls2 : 200 < s.size := by omega
        go_wp2_with fail
        go_ret
        exact ⟨rfl, HB.out.trans (Below.less F.2.2.2.2.2 HB.out.size)⟩
      by_cases lt : (200 : Int) < (t.size : Int)
      · have ls2 : ¬ 200 < s.size := by omega
        have lt2 : 200 < t.size := by omega
        go_wp2_with fail
        go_ret
        exact ⟨rfl, HB.out.trans (Below.less F.2.2.2.2.2 HB.out.size)⟩
      by_cases lu : (100 : Int) < (u.size : Int)
      · have ls2 : ¬ 200 < s.size := by omega
        have lt2 : ¬ 200 < t.size := by omega
        have lu2 : 100 < u.size := by omega
        go_wp2_with fail
        go_ret
        exact ⟨rfl, HB.out.trans (Below.less F.2.2.2.2.2 HB.out.size)⟩
      have ls2 : ¬ 200 < s.size := by omega
      have lt2 : ¬ 200 < t.size := by omega
      have lu2 : ¬ 100 < u.size := by omega
      go_upto_region 7 with (fail)
      change Code.wp Tryd.prog _ _ _ ((((w3.alloc (.cells #[.bool k5, .slice A5 (List.length L5) c5] 25)).alloc (.cells #[.bool k6, .slice A6 (List.length L6) c6] 25)).alloc (.cells #[.bool k7, .slice A7 (List.length L7) c7] 31)).alloc (.cells #[.bool k8, .slice A8 (List.length L8) c8] 31))
      generalize (((w3.alloc (.cells #[.bool k5, .slice A5 (List.length L5) c5] 25)).alloc (.cells #[.bool k6, .slice A6 (List.length L6) c6] 25)).alloc (.cells #[.bool k7, .slice A7 (List.length L7) c7] 31)).alloc (.cells #[.bool k8, .slice A8 (List.length L8) c8] 31) = W at *
      obtain ⟨b2, -, -, -, hsz, hbw⟩ := F
      have x0 := HX0.out.below hbw (by omega)
      have x1 := HX1.out.below hbw (by omega)
      have x2 := HX2.out.below hbw (by omega)
      have x3 := HX3.out.below hbw (by omega)
      have I1 := J1'.up hbw
      have I2 := J2'.up hbw
      have I4 := J3'.up hbw
      have I6 := J4'.up hbw
      have I3 := I5.up hbw
      have hbW := HB.out.trans (Below.less hbw HB.out.size)
      clear HB HX0 HX1 HX2 HX3 J1' J2' J3' J4' I5 hbw
      have HWW := Lib.hid hbW
      have HTW := Lib.hid (tab_up HT.out hbW)
      have p1 : PInt (zI k1 L1) 223 (.agg #[.bool k1, .slice A1 (List.length L1) c1]) W := ⟨_, _, _, _, rfl, I1, rfl, hl1⟩
      have p2 : PInt (zI k2 L2) 223 (.agg #[.bool k2, .slice A2 (List.length L2) c2]) W := ⟨_, _, _, _, rfl, I2, rfl, hl2⟩
      have p3 : PInt (zI k5 L5) 223 (.agg #[.bool k5, .slice A5 (List.length L5) c5]) W := ⟨_, _, _, _, rfl, I3, rfl, hl5⟩
      have p4 : PRef (zI k1 L1) 500 (.agg #[.bool k3, .slice A3 (List.length L3) c3]) W := ⟨_, _, _, _, rfl, I4, HZ13.out.symm, hl3⟩
      have p5 : PRef (zI k2 L2) 500 (.agg #[.bool k4, .slice A4 (List.length L4) c4]) W := ⟨_, _, _, _, rfl, I6, HZ24.out.symm, hl4⟩
      have hlt0 : w2.heap.size < W.heap.size := by omega
      have hlt1 : w2.heap.size + 1 < W.heap.size := by omega
      have hlt3 : w2.heap.size + 1 + 1 < W.heap.size := by omega
      have hlt4 : w2.heap.size + 1 + 1 + 1 < W.heap.size := by omega
      have hlt2 : w3.heap.size < W.heap.size := by omega
      clear hbW I1 I2 I3 I4 I6 hsz hl1 hl2 hl3 hl4 hl5 HZ13 HZ24 ls lt lu ls2 lt2 lu2 hsz3
      generalize zI k1 L1 = z1 at *
      generalize zI k2 L2 = z2 at *
      generalize zI k5 L5 = z3 at *
      generalize List.length L1 = n1 at *
      generalize List.length L2 = n2 at *
      generalize List.length L3 = n4 at *
      generalize List.length L4 = n5 at *
      generalize List.length L5 = n3 at *
      generalize hg0 : w2.heap.size = g0 at *
      generalize hg2 : w3.heap.size = g2 at *
      clear hg0 hg2
      have r0 := x0.c0
      have r1 := x0.c1
      have r2 := x1.c0
      have r3 := x1.c1
      go_wp2_with fail
      refine (gcd_fact2 p1 p2 (by omega) (by omega)).mono ?_
      rintro e w4 ⟨k9, A9, c9, n9, rfl, pg, hb4⟩
      clear r0 r1 r2 r3
      have F9 := one_box w4 (.bool k9) (.slice A9 n9 c9) 25
      go_upto_region 8 with (fail)
      change Code.wp Tryd.prog _ _ _ (w4.alloc (.cells #[.bool k9, .slice A9 n9 c9] 25))
      generalize w4.alloc (.cells #[.bool k9, .slice A9 n9 c9] 25) = V at *
      obtain ⟨xg, hszg, hbg⟩ := F9
      have hbV := below_then hb4 hbg hb4.size
      have hsV := hb4.size
      have y0 := x0.below hbV (by omega)
      have y1 := x1.below hbV (by omega)
      have y2 := x2.below hbV (by omega)
      have y3 := x3.below hbV (by omega)
      have y4 := b2.below hbV (by omega)
      have P1 := p1.up hbV
      have P2 := p2.up hbV
      have P3 := p3.up hbV
      have P4 := p4.up hbV
      have P5 := p5.up hbV
      have P9 := pg.up hbg
      have hk0 : g0 < V.heap.size := by omega
      have hk1 : g0 + 1 < V.heap.size := by omega
      have hk2 : g0 + 1 + 1 < V.heap.size := by omega
      have hk3 : g0 + 1 + 1 + 1 < V.heap.size := by omega
      have hk4 : g2 < V.heap.size := by omega
      have hk5 : w4.heap.size < V.heap.size := by omega
      have HWV := Lib.hid (HWW.out.trans (Below.less hbV HWW.out.size))
      have HTV := Lib.hid (tab_up HTW.out hbV)
      clear x0 x1 x2 x3 b2 p1 p2 p3 p4 p5 pg hb4 hbg hbV hsV hszg hlt0 hlt1 hlt2 hlt3 hlt4 HTW HWW
      have HTW := HTV
      clear HTV
      generalize hg4 : w4.heap.size = g4 at *
      clear hg4
      have HC := Lib.hid (Below.refl V.heap.size V)
      refine region_facts (dvsFL z1 z2 z3) (fun w' => Below V.heap.size V w') [[], [], [], [68, 69], [67, 70], [71], [72], [73], [73], [73], [73], [73, 76, 77], [73, 75, 78], [73, 74, 79], [73, 80], [73, 81], [82], [83], [83], [83, 84, 85], [83], [83], [83, 87, 88], [83, 86, 89], [83], [83, 91], [83], [83, 92, 93], [83, 90, 94], [83, 95], [83, 96]] (fun u => by simp only [dvsFL, temps, List.map_cons, List.map_nil, fillL, List.setIfInBounds_toArray, List.set_cons_zero, List.set_cons_succ]; rfl) (by kernel_rfl) (by kernel_rfl) (by kernel_rfl) (below_drew HC.out) ?_ ?_
      · refine StepsFr.cons ?_ ?_
        · intro u w hJ hF K hK
          clear hF
          have hf10 := (below_atB (i := 0) hJ hk5).trans xg.c0
          have hf11 := (below_atB (i := 1) hJ hk5).trans xg.c1
          go_simp
          exact hK.out _ _ hJ (Below.refl _ _) (P9.up hJ)
        refine StepsFr.cons ?_ ?_
        · intro u w hJ hF K hK
          clear hF
          have hf4 := (below_atB (i := 0) hJ hk2).trans y2.c0
          have hf5 := (below_atB (i := 1) hJ hk2).trans y2.c1
          go_simp
          exact hK.out _ _ hJ (Below.refl _ _) (P4.up hJ)
        refine StepsFr.cons ?_ ?_
        · intro u w hJ hF K hK
          clear hF
          have hf6 := (below_atB (i := 0) hJ hk3).trans y3.c0
          have hf7 := (below_atB (i := 1) hJ hk3).trans y3.c1
          go_simp
          exact hK.out _ _ hJ (Below.refl _ _) (P5.up hJ)
        refine StepsFr.cons ?_ ?_
        · intro u w hJ hF K hK
          have h68 : PRef (z1) 500 (u 68) w := facts_get hF 68 (by simp)
          have h69 : PRef (z2) 500 (u 69) w := facts_get hF 69 (by simp)
          clear hF
          go_simp
          refine (rgcd_fact h68 h69 (by omega) (by omega)).mono ?_
          rintro e w' ⟨v, rfl, hv, hb⟩
          exact hK.out _ _ (below_then hJ hb hJ.size) hb (hv)
        refine StepsFr.cons ?_ ?_
        · intro u w hJ hF K hK
          have h67 : PInt ((Int.gcd z1 z2 : Int)) 446 (u 67) w := facts_get hF 67 (by simp)
          have h70 : PRef ((Int.gcd (z1) (z2) : Int)) 1000 (u 70) w := facts_get hF 70 (by simp)
          clear hF
          go_simp
          refine (same_fact h67 h70 (by omega) (by omega) (rfl) (tab_up HTW.out hJ)).mono ?_
          rintro e w' ⟨rfl, hb⟩
          exact hK.out _ _ (below_then hJ hb hJ.size) hb (rfl)
        refine StepsFr.cons ?_ ?_
        · intro u w hJ hF K hK
          have h71 : u 71 = .bool true := facts_get hF 71 (by simp)
          clear hF
          simp only [h71] at hK ⊢
          clear h71
          go_simp
          exact hK.out _ _ hJ (Below.refl _ _) rfl
        refine StepsFr.cons ?_ ?_
        · intro u w hJ hF K hK
          have h72 : u 72 = .bool false := facts_get hF 72 (by simp)
          clear hF
          simp only [h72] at hK ⊢
          clear h72
          go_simp
          exact hK.out _ _ hJ (Below.refl _ _) (rfl)
        refine StepsFr.cons ?_ ?_
        · intro u w hJ hF K hK
          have h73 : u 73 = .bool false := facts_get hF 73 (by simp)
          clear hF
          simp only [h73] at hK ⊢
          clear h73
          have hf10 := (below_atB (i := 0) hJ hk5).trans xg.c0
          have hf11 := (below_atB (i := 1) hJ hk5).trans xg.c1
          go_simp
          exact hK.out _ _ hJ (Below.refl _ _) (P9.up hJ)
        refine StepsFr.cons ?_ ?_
        · intro u w hJ hF K hK
          have h73 : u 73 = .bool false := facts_get hF 73 (by simp)
          clear hF
          simp only [h73] at hK ⊢
          clear h73
          have hf2 := (below_atB (i := 0) hJ hk1).trans y1.c0
          have hf3 := (below_atB (i := 1) hJ hk1).trans y1.c1
          go_simp
          exact hK.out _ _ hJ (Below.refl _ _) (P2.up hJ)
        refine StepsFr.cons ?_ ?_
        · intro u w hJ hF K hK
          have h73 : u 73 = .bool false := facts_get hF 73 (by simp)
          clear hF
          simp only [h73] at hK ⊢
          clear h73
          have hf0 := (below_atB (i := 0) hJ hk0).trans y0.c0
          have hf1 := (below_atB (i := 1) hJ hk0).trans y0.c1
          go_simp
          exact hK.out _ _ hJ (Below.refl _ _) (P1.up hJ)
        refine StepsFr.cons ?_ ?_
        · intro u w hJ hF K hK
          have h73 : u 73 = .bool false := facts_get hF 73 (by simp)
          clear hF
          simp only [h73] at hK ⊢
          clear h73
          have hf2 := (below_atB (i := 0) hJ hk1).trans y1.c0
          have hf3 := (below_atB (i := 1) hJ hk1).trans y1.c1
          go_simp
          exact hK.out _ _ hJ (Below.refl _ _) (P2.up hJ)
        refine StepsFr.cons ?_ ?_
        · intro u w hJ hF K hK
          have h73 : u 73 = .bool false := facts_get hF 73 (by simp)
          have h76 : PInt (z1) 223 (u 76) w := facts_get hF 76 (by simp)
          have h77 : PInt (z2) 223 (u 77) w := facts_get hF 77 (by simp)
          clear hF
          simp only [h73] at hK ⊢
          clear h73
          go_simp
          refine (sub_fact h76 h77 (by omega) (by omega)).mono ?_
          rintro e w' ⟨v, rfl, hv, hb⟩
          exact hK.out _ _ (below_then hJ hb hJ.size) hb (hv)
        refine StepsFr.cons ?_ ?_
        · intro u w hJ hF K hK
          have h73 : u 73 = .bool false := facts_get hF 73 (by simp)
          have h75 : PInt (z2) 223 (u 75) w := facts_get hF 75 (by simp)
          have h78 : PInt ((z1) - (z2)) 447 (u 78) w := facts_get hF 78 (by simp)
          clear hF
          simp only [h73] at hK ⊢
          clear h73
          go_simp
          refine (gcd_fact h75 h78 (by omega) (by omega)).mono ?_
          rintro e w' ⟨v, rfl, hv, hb⟩
          exact hK.out _ _ (below_then hJ hb hJ.size) hb (hv)
        refine StepsFr.cons ?_ ?_
        · intro u w hJ hF K hK
          have h73 : u 73 = .bool false := facts_get hF 73 (by simp)
          have h74 : PInt ((Int.gcd z1 z2 : Int)) 446 (u 74) w := facts_get hF 74 (by simp)
          have h79 : PInt ((Int.gcd (z2) ((z1) - (z2)) : Int)) 670 (u 79) w := facts_get hF 79 (by simp)
          clear hF
          simp only [h73] at hK ⊢
          clear h73
          go_simp
          refine (equal_fact h74 h79 (by omega) (by omega) (gcd_step1 _ _) (tab_up HTW.out hJ)).mono ?_
          rintro e w' ⟨rfl, hb⟩
          exact hK.out _ _ (below_then hJ hb hJ.size) hb (rfl)
        refine StepsFr.cons ?_ ?_
        · intro u w hJ hF K hK
          have h73 : u 73 = .bool false := facts_get hF 73 (by simp)
          have h80 : u 80 = .bool true := facts_get hF 80 (by simp)
          clear hF
          simp only [h73, h80] at hK ⊢
          clear h73 h80
          go_simp
          exact hK.out _ _ hJ (Below.refl _ _) rfl
        refine StepsFr.cons ?_ ?_
        · intro u w hJ hF K hK
          have h73 : u 73 = .bool false := facts_get hF 73 (by simp)
          have h81 : u 81 = .bool false := facts_get hF 81 (by simp)
          clear hF
          simp only [h73, h81] at hK ⊢
          clear h73 h81
          go_simp
          exact hK.out _ _ hJ (Below.refl _ _) rfl
        refine StepsFr.cons ?_ ?_
        · intro u w hJ hF K hK
          have h82 : u 82 = .bool false := facts_get hF 82 (by simp)
          clear hF
          simp only [h82] at hK ⊢
          clear h82
          go_simp
          exact hK.out _ _ hJ (Below.refl _ _) (rfl)
        refine StepsFr.cons ?_ ?_
        · intro u w hJ hF K hK
          have h83 : u 83 = .bool false := facts_get hF 83 (by simp)
          clear hF
          simp only [h83] at hK ⊢
          clear h83
          have hf8 := (below_atB (i := 0) hJ hk4).trans y4.c0
          have hf9 := (below_atB (i := 1) hJ hk4).trans y4.c1
          go_simp
          exact hK.out _ _ hJ (Below.refl _ _) (P3.up hJ)
        refine StepsFr.cons ?_ ?_
        · intro u w hJ hF K hK
          have h83 : u 83 = .bool false := facts_get hF 83 (by simp)
          clear hF
          simp only [h83] at hK ⊢
          clear h83
          have hf0 := (below_atB (i := 0) hJ hk0).trans y0.c0
          have hf1 := (below_atB (i := 1) hJ hk0).trans y0.c1
          go_simp
          exact hK.out _ _ hJ (Below.refl _ _) (P1.up hJ)
        refine StepsFr.cons ?_ ?_
        · intro u w hJ hF K hK
          have h83 : u 83 = .bool false := facts_get hF 83 (by simp)
          have h84 : PInt (z3) 223 (u 84) w := facts_get hF 84 (by simp)
          have h85 : PInt (z1) 223 (u 85) w := facts_get hF 85 (by simp)
          clear hF
          simp only [h83] at hK ⊢
          clear h83
          go_simp
          refine (mul_fact h84 h85 (by omega) (by omega)).mono ?_
          rintro e w' ⟨v, rfl, hv, hb⟩
          exact hK.out _ _ (below_then hJ hb hJ.size) hb (hv)
        refine StepsFr.cons ?_ ?_
        · intro u w hJ hF K hK
          have h83 : u 83 = .bool false := facts_get hF 83 (by simp)
          clear hF
          simp only [h83] at hK ⊢
          clear h83
          have hf8 := (below_atB (i := 0) hJ hk4).trans y4.c0
          have hf9 := (below_atB (i := 1) hJ hk4).trans y4.c1
          go_simp
          exact hK.out _ _ hJ (Below.refl _ _) (P3.up hJ)
        refine StepsFr.cons ?_ ?_
        · intro u w hJ hF K hK
          have h83 : u 83 = .bool false := facts_get hF 83 (by simp)
          clear hF
          simp only [h83] at hK ⊢
          clear h83
          have hf2 := (below_atB (i := 0) hJ hk1).trans y1.c0
          have hf3 := (below_atB (i := 1) hJ hk1).trans y1.c1
          go_simp
          exact hK.out _ _ hJ (Below.refl _ _) (P2.up hJ)
        refine StepsFr.cons ?_ ?_
        · intro u w hJ hF K hK
          have h83 : u 83 = .bool false := facts_get hF 83 (by simp)
          have h87 : PInt (z3) 223 (u 87) w := facts_get hF 87 (by simp)
          have h88 : PInt (z2) 223 (u 88) w := facts_get hF 88 (by simp)
          clear hF
          simp only [h83] at hK ⊢
          clear h83
          go_simp
          refine (mul_fact h87 h88 (by omega) (by omega)).mono ?_
          rintro e w' ⟨v, rfl, hv, hb⟩
          exact hK.out _ _ (below_then hJ hb hJ.size) hb (hv)
        refine StepsFr.cons ?_ ?_
        · intro u w hJ hF K hK
          have h83 : u 83 = .bool false := facts_get hF 83 (by simp)
          have h86 : PInt ((z3) * (z1)) 446 (u 86) w := facts_get hF 86 (by simp)
          have h89 : PInt ((z3) * (z2)) 446 (u 89) w := facts_get hF 89 (by simp)
          clear hF
          simp only [h83] at hK ⊢
          clear h83
          go_simp
          refine (gcd_fact h86 h89 (by omega) (by omega)).mono ?_
          rintro e w' ⟨v, rfl, hv, hb⟩
          exact hK.out _ _ (below_then hJ hb hJ.size) hb (hv)
        refine StepsFr.cons ?_ ?_
        · intro u w hJ hF K hK
          have h83 : u 83 = .bool false := facts_get hF 83 (by simp)
          clear hF
          simp only [h83] at hK ⊢
          clear h83
          have hf8 := (below_atB (i := 0) hJ hk4).trans y4.c0
          have hf9 := (below_atB (i := 1) hJ hk4).trans y4.c1
          go_simp
          exact hK.out _ _ hJ (Below.refl _ _) (P3.up hJ)
        refine StepsFr.cons ?_ ?_
        · intro u w hJ hF K hK
          have h83 : u 83 = .bool false := facts_get hF 83 (by simp)
          have h91 : PInt (z3) 223 (u 91) w := facts_get hF 91 (by simp)
          clear hF
          simp only [h83] at hK ⊢
          clear h83
          go_simp
          refine (abs_fact h91 (by omega)).mono ?_
          rintro e w' ⟨v, rfl, hv, hb⟩
          exact hK.out _ _ (below_then hJ hb hJ.size) hb (hv)
        refine StepsFr.cons ?_ ?_
        · intro u w hJ hF K hK
          have h83 : u 83 = .bool false := facts_get hF 83 (by simp)
          clear hF
          simp only [h83] at hK ⊢
          clear h83
          have hf10 := (below_atB (i := 0) hJ hk5).trans xg.c0
          have hf11 := (below_atB (i := 1) hJ hk5).trans xg.c1
          go_simp
          exact hK.out _ _ hJ (Below.refl _ _) (P9.up hJ)
        refine StepsFr.cons ?_ ?_
        · intro u w hJ hF K hK
          have h83 : u 83 = .bool false := facts_get hF 83 (by simp)
          have h92 : PInt (((z3).natAbs : Int)) 223 (u 92) w := facts_get hF 92 (by simp)
          have h93 : PInt ((Int.gcd z1 z2 : Int)) 446 (u 93) w := facts_get hF 93 (by simp)
          clear hF
          simp only [h83] at hK ⊢
          clear h83
          go_simp
          refine (mul_fact h92 h93 (by omega) (by omega)).mono ?_
          rintro e w' ⟨v, rfl, hv, hb⟩
          exact hK.out _ _ (below_then hJ hb hJ.size) hb (hv)
        refine StepsFr.cons ?_ ?_
        · intro u w hJ hF K hK
          have h83 : u 83 = .bool false := facts_get hF 83 (by simp)
          have h90 : PInt ((Int.gcd ((z3) * (z1)) ((z3) * (z2)) : Int)) 892 (u 90) w := facts_get hF 90 (by simp)
          have h94 : PInt ((((z3).natAbs : Int)) * ((Int.gcd z1 z2 : Int))) 669 (u 94) w := facts_get hF 94 (by simp)
          clear hF
          simp only [h83] at hK ⊢
          clear h83
          go_simp
          refine (equal_fact h90 h94 (by omega) (by omega) (gcd_step2 _ _ _) (tab_up HTW.out hJ)).mono ?_
          rintro e w' ⟨rfl, hb⟩
          exact hK.out _ _ (below_then hJ hb hJ.size) hb (rfl)
        refine StepsFr.cons ?_ ?_
        · intro u w hJ hF K hK
          have h83 : u 83 = .bool false := facts_get hF 83 (by simp)
          have h95 : u 95 = .bool true := facts_get hF 95 (by simp)
          clear hF
          simp only [h83, h95] at hK ⊢
          clear h83 h95
          go_simp
          exact hK.out _ _ hJ (Below.refl _ _) rfl
        refine StepsFr.cons ?_ ?_
        · intro u w hJ hF K hK
          have h83 : u 83 = .bool false := facts_get hF 83 (by simp)
          have h96 : u 96 = .bool false := facts_get hF 96 (by simp)
          clear hF
          simp only [h83, h96] at hK ⊢
          clear h83 h96
          go_simp
          exact hK.out _ _ hJ (Below.refl _ _) rfl
        exact StepsFr.nil
      · intro u w9 hJ9 hF
        have h97 : u 97 = .bool false := facts_get hF 97 (by simp [dvsFL, temps])
        clear hF
        simp only [h97]
        clear h97
        have HC := Lib.hid hJ9
        clear hJ9
        go_upto_region 10 with (fail)
        have zg := xg.below HC.out hk5
        have r8 := zg.c0
        have r9 := zg.c1
        have PG := Lib.hid (P9.up HC.out)
        rcases Nat.eq_zero_or_pos (Int.gcd z1 z2) with h0 | h0
        · obtain ⟨e1, e2⟩ := gcd_zero' z1 z2 (by omega)
          have hs0 := Lib.hid (show cmpI (Int.gcd z1 z2 : Int) 0 = 0 by rw [h0]; rfl)
          have hs1 := Lib.hid (show cmpI z1 0 = 0 by rw [e1]; rfl)
          have hs2 := Lib.hid (show cmpI z2 0 = 0 by rw [e2]; rfl)
          clear e1 e2 h0
          go_wp2_with fail
          refine (sign_is PG.out hs0.out).mono ?_
          rintro e w10 ⟨rfl, hb10⟩
          have HC2 := Lib.hid (below_then HC.out hb10 HC.out.size)
          clear r8 r9 zg hb10
          have r0 := (y0.below HC2.out hk0).c0
          have r1 := (y0.below HC2.out hk0).c1
          have r2 := (y1.below HC2.out hk1).c0
          have r3 := (y1.below HC2.out hk1).c1
          go_wp2_with fail
          refine (sign_is (P1.up HC2.out) hs1.out).mono ?_
          rintro e w11 ⟨rfl, hb11⟩
          have HC3 := Lib.hid (below_then HC2.out hb11 HC2.out.size)
          clear r0 r1 r2 r3 hb11
          have r2 := (y1.below HC3.out hk1).c0
          have r3 := (y1.below HC3.out hk1).c1
          go_wp2_with fail
          refine (sign_is (P2.up HC3.out) hs2.out).mono ?_
          rintro e w12 ⟨rfl, hb12⟩
          have HC4 := Lib.hid (below_then HC3.out hb12 HC3.out.size)
          clear r2 r3 hb12
          go_wp2_with fail
          go_ret
          exact ⟨rfl, HWV.out.trans (Below.less HC4.out HWV.out.size)⟩
        · have hs0 := Lib.hid (show cmpI (Int.gcd z1 z2 : Int) 0 = 1 by unfold cmpI; rw [if_neg (by omega), if_neg (by omega)])
          have hne : ((Int.gcd z1 z2 : Nat) : Int) ≠ 0 := by omega
          have HNE := Lib.hid hne
          clear h0 hne
          go_wp2_with fail
          refine (sign_is PG.out hs0.out).mono ?_
          rintro e w10 ⟨rfl, hb10⟩
          have HC2 := Lib.hid (below_then HC.out hb10 HC.out.size)
          clear r8 r9 zg hb10
          have r0 := (y0.below HC2.out hk0).c0
          have r1 := (y0.below HC2.out hk0).c1
          have r8 := (xg.below HC2.out hk5).c0
          have r9 := (xg.below HC2.out hk5).c1
          go_wp2_with fail
          refine (quoRem_fact (P1.up HC2.out) (P9.up HC2.out) (by omega) (by omega) HNE.out).mono ?_
          rintro e w11 ⟨ka, Aa, ca, la, kb, Ab, cb, lb, rfl, pa, hb11⟩
          rw [tmod_gcd1] at pa
          have HC3 := Lib.hid (below_then HC2.out hb11 HC2.out.size)
          clear r0 r1 r8 r9 hb11
          have F2 := two_boxes w11 (.bool ka) (.slice Aa la ca) (.bool kb) (.slice Ab lb cb) 25 25
          go_upto_region 13 with (fail)
          change Code.wp Tryd.prog _ _ _ ((w11.alloc (.cells #[.bool ka, .slice Aa la ca] 25)).alloc (.cells #[.bool kb, .slice Ab lb cb] 25))
          generalize (w11.alloc (.cells #[.bool ka, .slice Aa la ca] 25)).alloc (.cells #[.bool kb, .slice Ab lb cb] 25) = V2 at *
          obtain ⟨-, f1, fs, fb⟩ := F2
          have HC4 := Lib.hid (below_then HC3.out fb HC3.out.size)
          have PA := pa.up fb
          have hk6 : w11.heap.size + 1 < V2.heap.size := by omega
          have HF1 := Lib.hid f1
          clear fb fs pa f1
          have r2 := (y1.below HC4.out hk1).c0
          have r3 := (y1.below HC4.out hk1).c1
          have r8 := (xg.below HC4.out hk5).c0
          have r9 := (xg.below HC4.out hk5).c1
          go_wp2_with fail
          refine (quoRem_fact (P2.up HC4.out) (P9.up HC4.out) (by omega) (by omega) HNE.out).mono ?_
          rintro e w12 ⟨kc, Ac, cc, lc, kd, Ad, cd, ld, rfl, pb, hb12⟩
          rw [tmod_gcd2] at pb
          have HC5 := Lib.hid (below_then HC4.out hb12 HC4.out.size)
          have HF2 := Lib.hid (HF1.out.below hb12 hk6)
          have hk7 : w11.heap.size + 1 < w12.heap.size := by have := hb12.size; omega
          have PA2 := PA.up hb12
          clear r2 r3 r8 r9 hb12 PA
          have F3 := two_boxes w12 (.bool kc) (.slice Ac lc cc) (.bool kd) (.slice Ad ld cd) 25 25
          go_upto_region 14 with (fail)
          change Code.wp Tryd.prog _ _ _ ((w12.alloc (.cells #[.bool kc, .slice Ac lc cc] 25)).alloc (.cells #[.bool kd, .slice Ad ld cd] 25))
          generalize (w12.alloc (.cells #[.bool kc, .slice Ac lc cc] 25)).alloc (.cells #[.bool kd, .slice Ad ld cd] 25) = V3 at *
          obtain ⟨-, f1, fs, fb⟩ := F3
          have HC6 := Lib.hid (below_then HC5.out fb HC5.out.size)
          have PA3 := PA2.up fb
          have PB := pb.up fb
          have hk8 : w12.heap.size + 1 < V3.heap.size := by omega
          have hk9 : w11.heap.size + 1 < V3.heap.size := by omega
          have HF3 := Lib.hid (HF2.out.below fb hk7)
          have HF4 := Lib.hid f1
          clear fb fs pb f1 PA2
          have r0 := HF3.out.c0
          have r1 := HF3.out.c1
          go_wp2_with fail
          refine (sign_is PA3 (show cmpI 0 0 = 0 from rfl)).mono ?_
          rintro e w13 ⟨rfl, hb13⟩
          have HC7 := Lib.hid (below_then HC6.out hb13 HC6.out.size)
          have r2 := (HF4.out.below hb13 hk8).c0
          have r3 := (HF4.out.below hb13 hk8).c1
          have PB2 := PB.up hb13
          clear r0 r1 hb13
          go_wp2_with fail
          refine (sign_is PB2 (show cmpI 0 0 = 0 from rfl)).mono ?_
          rintro e w14 ⟨rfl, hb14⟩
          have HC8 := Lib.hid (below_then HC7.out hb14 HC7.out.size)
          clear r2 r3 hb14
          have r8 := (xg.below HC8.out hk5).c0
          have r9 := (xg.below HC8.out hk5).c1
          go_wp2_with fail
          refine (sign_is (P9.up HC8.out) hs0.out).mono ?_
          rintro e w15 ⟨rfl, hb15⟩
          have HC9 := Lib.hid (below_then HC8.out hb15 HC8.out.size)
          clear r8 r9 hb15
          go_wp2_with fail
          go_ret
          exact ⟨rfl, HWV.out.trans (Below.less HC9.out HWV.out.size)⟩
end Go.Proofs.YtbfbijokhlkekaaDoor
