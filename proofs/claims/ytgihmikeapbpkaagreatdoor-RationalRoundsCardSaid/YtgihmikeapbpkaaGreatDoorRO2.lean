/- Contracts and the law of RationalRounds, part 2: what was proved of each, callees first. -/
import Derived.Test.YtgihmikeapbpkaaGreatDoorRO1
namespace Go.Proofs.YtgihmikeapbpkaaGreatDoor
open Go.RowKit
open AS (Keep NoInt)
theorem cmpQ_le {x y : Rat} (h : x ≤ y) : cmpQ x y ≤ 0 := by
 unfold cmpQ
 by_cases a : x < y
 ·rw [if_pos a]; decide
 ·rw [if_neg a, if_pos (by grind)]; decide
theorem cmpQ_ge {x y : Rat} (h : y ≤ x) : 0 ≤ cmpQ x y := by rw [cmpQ_swap y x]; have := cmpQ_le h; omega
theorem round_c1 (x : Rat) : decide (0 < cmpQ (x - (rndQ x : Rat)) (Rat.divInt 1 2)) = false := by
 have h := cmpQ_le (rndQ_near x).1
 rw [half_num]; simp; exact h
theorem round_c2 (x : Rat) : decide (cmpQ (x - (rndQ x : Rat)) (-(Rat.divInt 1 2)) < 0) = false := by
 have h := cmpQ_ge (rndQ_near x).2
 rw [half_num]; simp; exact h
theorem cmpI_range (x y : Int) : -1 ≤ cmpI x y ∧ cmpI x y ≤ 1 := by
 unfold cmpI
 split
 ·decide
 ·split <;> decide
theorem round_mono (x y : Rat) : decide (cmpQ x y * cmpI (rndQ x) (rndQ y) < 0) = false := by
 rcases (by grind : x < y ∨ x = y ∨ y < x) with h | h | h
 ·have h1 : cmpQ x y = -1 := by unfold cmpQ; rw [if_pos h]
  have h2 := rndQ_mono (show x ≤ y by grind)
  have h3 : cmpI (rndQ x) (rndQ y) ≤ 0 := by
   unfold cmpI
   split
   ·decide
   ·rw [if_pos (by omega)]; decide
  rw [h1]; simp; omega
 ·subst h
  rw [show cmpQ x x = 0 by unfold cmpQ; rw [if_neg Rat.lt_irrefl, if_pos rfl]]; simp
 ·have h1 : cmpQ x y = 1 := by unfold cmpQ; rw [if_neg (by grind), if_neg (by grind)]
  have h2 := rndQ_mono (show y ≤ x by grind)
  have h3 : 0 ≤ cmpI (rndQ x) (rndQ y) := by
   unfold cmpI
   rw [if_neg (by omega)]
   split <;> decide
  rw [h1]; simp; omega
def JTwo (W : World) (t : TypeId) : Nat → List Value → World → Prop
 | 0, _, w => Below W.heap.size W w
 | 1, l, w => Below W.heap.size W w ∧ ∃ (g : Nat) (vs : List Value), l = [.agg vs.toArray, .pointer (some ⟨g, 0, none⟩)] ∧ W.heap.size ≤ g ∧ Bx t w g vs
 | _ + 2, l, w => Below W.heap.size W w ∧ ∃ (g : Nat) (vs : List Value) (g2 : Nat) (vs2 : List Value), l = [.agg vs.toArray, .pointer (some ⟨g, 0, none⟩), .agg vs2.toArray, .pointer (some ⟨g2, 0, none⟩)] ∧ W.heap.size ≤ g ∧ W.heap.size ≤ g2 ∧ g ≠ g2 ∧ Bx t w g vs ∧ Bx t w g2 vs2
theorem JTwo.st (W : World) (t : TypeId) : ∀ k l w w', Below w.heap.size w w' → JTwo W t k l w → JTwo W t k l w'
 | 0, _, _, _, hb, h => below_then h hb h.size
 | 1, _, _, _, hb, ⟨h1, g, vs, h3, h4, h5⟩ => ⟨below_then h1 hb h1.size, g, vs, h3, h4, h5.up hb⟩
 | _ + 2, _, _, _, hb, ⟨h1, g, vs, g2, vs2, h3, h4, h5, h6, h7, h8⟩ => ⟨below_then h1 hb h1.size, g, vs, g2, vs2, h3, h4, h5, h6, h7.up hb, h8.up hb⟩
def roundsFL6 (x y : Rat) (W5 : World) : List (Nat × AS.Fact) := [(31, AS.Fact.rat (x) 223), (32, AS.Fact.int (rndQ x) 451), (33, AS.Fact.rat (y) 223), (34, AS.Fact.int (rndQ y) 451), (10, AS.Fact.isBox 25 W5.heap.size), (11, AS.Fact.isBox 25 W5.heap.size)]
def roundsFL11 (x : Rat) (d1 d2 : Int) : List (Nat × AS.Fact) := [(49, AS.Fact.is (.int .i64 0)), (50, AS.Fact.is (.bool false)), (51, AS.Fact.is (.bool false)), (52, AS.Fact.is (.int .i64 0)), (53, AS.Fact.is (.bool false)), (54, AS.Fact.is (.bool false)), (55, AS.Fact.is (.bool false)), (56, AS.Fact.rat (x - (rndQ x : Rat)) 2006), (57, AS.Fact.rat (Rat.divInt 1 2) 4), (58, AS.Fact.is (.int .i64 (d1))), (59, AS.Fact.is (.bool false)), (60, AS.Fact.is (.bool false)), (61, AS.Fact.is (.bool false)), (62, AS.Fact.rat (x - (rndQ x : Rat)) 2006), (63, AS.Fact.rat (Rat.divInt 1 2) 4), (64, AS.Fact.rat (-(Rat.divInt 1 2)) 5), (65, AS.Fact.is (.int .i64 (d2))), (66, AS.Fact.is (.bool false)), (67, AS.Fact.is (.bool false))]
def roundsFL13 (x y : Rat) (d3 d4 m : Int) : List (Nat × AS.Fact) := [(68, AS.Fact.rat (x) 223), (69, AS.Fact.rat (y) 223), (70, AS.Fact.is (.int .i64 (d3))), (71, AS.Fact.int (rndQ x) 451), (72, AS.Fact.int (rndQ y) 451), (73, AS.Fact.is (.int .i64 (d4))), (74, AS.Fact.is (.int .i64 (m))), (75, AS.Fact.is (.bool false))]
def roundsFL15 (x : Rat) : List (Nat × AS.Fact) := [(76, AS.Fact.int (rndQ x) 451), (77, AS.Fact.is (.string ⟨(decZ (rndQ x)).toArray⟩)), (78, AS.Fact.rrat (x) 500), (79, AS.Fact.ref (rndQ x) 1006), (80, AS.Fact.is (.string ⟨(decZ (rndQ x)).toArray⟩)), (81, AS.Fact.is (.bool true)), (82, AS.Fact.is (.bool true)), (83, AS.Fact.rat (x) 223), (84, AS.Fact.rat (-x) 224), (85, AS.Fact.int (-(rndQ x)) 453), (86, AS.Fact.is (.string ⟨(decZ (-(rndQ x))).toArray⟩)), (87, AS.Fact.int (rndQ x) 451), (88, AS.Fact.int (-(rndQ x)) 453), (89, AS.Fact.is (.string ⟨(decZ (-(rndQ x))).toArray⟩)), (90, AS.Fact.is (.bool true)), (91, AS.Fact.is (.bool true)), (4, AS.Fact.is (.bool true))]
set_option maxRecDepth 20000 in
set_option maxHeartbeats 12800000 in
theorem law_rounds (s t : ByteArray) (w : World) (hm : MaxOk w) (ht : Tab w.heap.size w) :
  Calls Tryz.prog 9 #[.string s, .string t] w fun e w' => e = .returned (.bool true) ∧ Below w.heap.size w w' := by
 have HM := Lib.hid hm
 have HT := Lib.hid ht
 clear hm ht
 go_enter Tryz.func9, Tryz.ntmps9
 go_wp2_with fail
 refine (awake_fact HT.out).mono ?_
 rintro e W1 ⟨rfl, hb⟩
 have nbel := hb
 have HB2 := Lib.hid nbel
 clear nbel hb
 have szb := HB2.out.size
 go_wp2_with fail
 refine (both_fact s t _ (HM.out.up HB2.out)).mono ?_
 rintro e W3 ⟨k1, A1, l1, c1, m1, E1, p1, q1, k2, A2, l2, c2, m2, E2, p2, q2, k3, A3, l3, c3, m3, E3, p3, q3, k4, A4, l4, c4, m4, E4, p4, q4, ok, rfl, hv, hb⟩
 have nbel := below_then HB2.out hb HB2.out.size
 have HB4 := Lib.hid nbel
 clear nbel HB2 hb szb
 have szb := HB4.out.size
 generalize ratV s.data.toList = x at hv
 generalize ratV t.data.toList = y at hv
 have HB0 := Lib.hid (OkP.mk hv)
 clear hv
 go_upto_region 4 with (fail)
 change Code.wp Tryz.prog _ _ _ ((((W3.alloc (.cells #[.bool k1, .slice A1 l1 c1, .bool m1, .slice E1 p1 q1] 27)).alloc (.cells #[.bool k2, .slice A2 l2 c2, .bool m2, .slice E2 p2 q2] 27)).alloc (.cells #[.bool k3, .slice A3 l3 c3, .bool m3, .slice E3 p3 q3] 35)).alloc (.cells #[.bool k4, .slice A4 l4 c4, .bool m4, .slice E4 p4 q4] 35))
 obtain ⟨nb5, nb6, nb7, nb8, na⟩ := new4 W3 27 [.bool k1, .slice A1 l1 c1, .bool m1, .slice E1 p1 q1] 27 [.bool k2, .slice A2 l2 c2, .bool m2, .slice E2 p2 q2] 35 [.bool k3, .slice A3 l3 c3, .bool m3, .slice E3 p3 q3] 35 [.bool k4, .slice A4 l4 c4, .bool m4, .slice E4 p4 q4] lf4 lf4 lf4 lf4
 have nkeep := Keep.ofBelow na
 have nbel := below_then HB4.out na HB4.out.size
 generalize (((W3.alloc (.cells #[.bool k1, .slice A1 l1 c1, .bool m1, .slice E1 p1 q1] 27)).alloc (.cells #[.bool k2, .slice A2 l2 c2, .bool m2, .slice E2 p2 q2] 27)).alloc (.cells #[.bool k3, .slice A3 l3 c3, .bool m3, .slice E3 p3 q3] 35)).alloc (.cells #[.bool k4, .slice A4 l4 c4, .bool m4, .slice E4 p4 q4] 35) = W5 at *
 clear na szb
 have b5 := Lib.hid nb5
 have b6 := Lib.hid nb6
 have b7 := Lib.hid nb7
 have b8 := Lib.hid nb8
 clear nb5 nb6 nb7 nb8
 replace HB0 := Lib.hid (HB0.out.kept nkeep)
 clear nkeep
 have HB6 := Lib.hid nbel
 clear nbel HB4
 obtain ⟨x5_0, x5_1, x5_2, x5_3, s5⟩ := b5.out.d4
 obtain ⟨x6_0, x6_1, x6_2, x6_3, s6⟩ := b6.out.d4
 obtain ⟨x7_0, x7_1, x7_2, x7_3, s7⟩ := b7.out.d4
 obtain ⟨x8_0, x8_1, x8_2, x8_3, s8⟩ := b8.out.d4
 have szb := HB6.out.size
 cases ok with
 | false =>
  go_wp2_with fail
  have hkeep := (Keep.refl W5)
  have hbel := HB6.out
  refine bodyPost_ret (v := .bool true) (by simp [results, Tryz.results9, go_sem]) rfl ⟨rfl, hbel⟩
 | true =>
  have hh := HB0.out.go rfl
  have HX := Lib.hid hh.1
  have HY := Lib.hid hh.2.1
  have HA := Lib.hid hh.2.2.1
  clear hh HB0
  obtain ⟨d1, hc1⟩ : ∃ c, cmpQ (x - (rndQ x : Rat)) (Rat.divInt 1 2) = c := ⟨_, rfl⟩
  have hn1 : decide (0 < d1) = false := by rw [← hc1]; exact round_c1 x
  obtain ⟨d2, hc2⟩ : ∃ c, cmpQ (x - (rndQ x : Rat)) (-(Rat.divInt 1 2)) = c := ⟨_, rfl⟩
  have hn2 : decide (d2 < 0) = false := by rw [← hc2]; exact round_c2 x
  obtain ⟨d3, hc3⟩ : ∃ c, cmpQ x y = c := ⟨_, rfl⟩
  obtain ⟨d4, hc4⟩ : ∃ c, cmpI (rndQ x) (rndQ y) = c := ⟨_, rfl⟩
  obtain ⟨m, hm0⟩ : ∃ m, d3 * d4 = m := ⟨_, rfl⟩
  have hw1 : IntKind.i64.wrap (d3 * d4) = m := by rw [← hm0, ← hc3, ← hc4]; exact wrapm (cmpQ_range _ _) (cmpI_range _ _)
  have hn3 : decide (m < 0) = false := by rw [← hm0, ← hc3, ← hc4]; exact round_mono x y
  have Qhc1 := Lib.hid hc1
  clear hc1
  have Qhc2 := Lib.hid hc2
  clear hc2
  have Qhc3 := Lib.hid hc3
  clear hc3
  have Qhc4 := Lib.hid hc4
  clear hc4
  have Qhw1 := Lib.hid hw1
  clear hw1
  have Qhn1 := Lib.hid hn1
  clear hn1
  have Qhn2 := Lib.hid hn2
  clear hn2
  have Qhn3 := Lib.hid hn3
  clear hn3 hm0
  go_upto_region 6 with (fail)
  refine AS.region_facts (roundsFL6 x y W5) (JTwo W5 25) [[], [31], [], [33], [], [], [32, 10], [34, 11]] [6, 7] [[], [32, 10], [32, 10, 34, 11]] [0, 2, 0, 2, 0, 0, 2, 2] [10, 11] (fun u => by simp only [roundsFL6, AS.temps, List.map_cons, List.map_nil, fillL, List.setIfInBounds_toArray, List.set_cons_zero, List.set_cons_succ]; rfl) (by kernel_rfl) (by kernel_rfl) (JTwo.st W5 25) (below_drew (Below.refl _ _)) ?_ ?_
  ·refine AS.sc rfl rfl rfl ?_ ?_
   ·intro k_ u w_ hk hJ hF K hK
    clear hF
    obtain rfl : k_ = 0 := Nat.le_zero.1 hk
    have hJ0 : Below W5.heap.size W5 w_ := hJ
    obtain ⟨y0, y1, y2, y3⟩ := ((b5.out).up hJ0).c4
    go_simp
    exact hK.out _ _ (Below.refl _ _) ((HX.out).kept (Keep.ofBelow hJ0)) trivial
   refine AS.sc rfl rfl rfl ?_ ?_
   ·intro k_ u w_ hk hJ hF K hK
    have h31 : PRat (x) 223 (u 31) w_ := AS.facts_get hF 31 (by simp)
    clear hF
    go_simp
    refine (ratRound_fact h31 (by decide) (by decide)).mono ?_
    rintro e w' ⟨v, rfl, hv, hb⟩
    exact hK.out _ _ hb (hv) trivial
   refine AS.sc rfl rfl rfl ?_ ?_
   ·intro k_ u w_ hk hJ hF K hK
    clear hF
    obtain rfl : k_ = 0 := Nat.le_zero.1 hk
    have hJ0 : Below W5.heap.size W5 w_ := hJ
    obtain ⟨y0, y1, y2, y3⟩ := ((b6.out).up hJ0).c4
    go_simp
    exact hK.out _ _ (Below.refl _ _) ((HY.out).kept (Keep.ofBelow hJ0)) trivial
   refine AS.sc rfl rfl rfl ?_ ?_
   ·intro k_ u w_ hk hJ hF K hK
    have h33 : PRat (y) 223 (u 33) w_ := AS.facts_get hF 33 (by simp)
    clear hF
    go_simp
    refine (ratRound_fact h33 (by decide) (by decide)).mono ?_
    rintro e w' ⟨v, rfl, hv, hb⟩
    exact hK.out _ _ hb (hv) trivial
   refine AS.sc rfl rfl rfl ?_ ?_
   ·intro k_ u w_ hk hJ hF K hK
    clear hF
    obtain rfl : k_ = 0 := Nat.le_zero.1 hk
    have hJ0 : Below W5.heap.size W5 w_ := hJ
    go_simp
    exact hK.out _ _ (below_alloc_new _) (IsBox.new _ hJ0.size) ⟨rfl, by simp⟩
   refine AS.sc rfl rfl rfl ?_ ?_
   ·intro k_ u w_ hk hJ hF K hK
    clear hF
    obtain rfl : k_ = 0 := Nat.le_zero.1 hk
    have hJ0 : Below W5.heap.size W5 w_ := hJ
    go_simp
    exact hK.out _ _ (below_alloc_new _) (IsBox.new _ hJ0.size) ⟨rfl, by simp⟩
   refine AS.ss rfl rfl ?_ ?_
   ·intro u w_ hJ hAp hF K hK
    have h32 : PInt (rndQ x) 451 (u 32) w_ := AS.facts_get hF 32 (by simp)
    have h10 : IsBox 25 W5.heap.size (u 10) w_ := AS.facts_get hF 10 (by simp)
    clear hF
    obtain ⟨g, x_, y_, eg, hgB, bx⟩ := h10
    obtain ⟨k1, A1, l1, c1_, e_⟩ := h32.open
    have y0 := bx.cell 0
    have y1 := bx.cell 1
    have z0 := bx.frozen 0
    have z1 := bx.frozen 1
    simp only [List.getElem?_cons_zero, List.getElem?_cons_succ] at y0 y1
    have hbel : Below W5.heap.size W5 w_ := hJ
    simp only [e_, eg] at hK ⊢
    go_simp
    exact hK.out undef _ ⟨(Below.setCell (p := ⟨g, 1, none⟩) (Below.setCell (p := ⟨g, 0, none⟩) hbel hgB (.bool k1)) hgB (.slice A1 l1 c1_)), g, [.bool k1, .slice A1 l1 c1_], by simp [e_, eg], hgB, (Bx.set2 bx (Leaf.bool k1) (Leaf.slice A1 l1 c1_))⟩ (Keep.set2 (Keep.refl w_) bx (Leaf.bool k1) (Leaf.slice A1 l1 c1_))
   refine AS.ss rfl rfl ?_ ?_
   ·intro u w_ hJ hAp hF K hK
    have h34 : PInt (rndQ y) 451 (u 34) w_ := AS.facts_get hF 34 (by simp)
    have h11 : IsBox 25 W5.heap.size (u 11) w_ := AS.facts_get hF 11 (by simp)
    clear hF
    obtain ⟨g, x_, y_, eg, hgB, bx⟩ := h11
    obtain ⟨k1, A1, l1, c1_, e_⟩ := h34.open
    have y0 := bx.cell 0
    have y1 := bx.cell 1
    have z0 := bx.frozen 0
    have z1 := bx.frozen 1
    simp only [List.getElem?_cons_zero, List.getElem?_cons_succ] at y0 y1
    obtain ⟨hbel, g2, vs, hvs, hg2, bx2⟩ := hJ
    have e7 : u 10 = .pointer (some ⟨g2, 0, none⟩) := (List.cons.inj (List.cons.inj hvs).2).1
    have hne : g ≠ g2 := by
     intro h
     refine hAp 10 (by simp) 11 (by simp) (by decide) ?_
     rw [e7, eg, h]
    clear e7
    simp only [e_, eg] at hK ⊢
    go_simp
    have a1 : u 32 = .agg vs.toArray := (List.cons.inj hvs).1
    have e7 : u 10 = .pointer (some ⟨g2, 0, none⟩) := (List.cons.inj (List.cons.inj hvs).2).1
    exact hK.out undef _ ⟨(Below.setCell (p := ⟨g, 1, none⟩) (Below.setCell (p := ⟨g, 0, none⟩) hbel hgB (.bool k1)) hgB (.slice A1 l1 c1_)), g2, vs, g, [.bool k1, .slice A1 l1 c1_], by simp [a1, e7, e_, eg], hg2, hgB, Ne.symm hne, Bx.far (Bx.far bx2 hne 0 (.bool k1)) hne 1 (.slice A1 l1 c1_), (Bx.set2 bx (Leaf.bool k1) (Leaf.slice A1 l1 c1_))⟩ (Keep.set2 (Keep.refl w_) bx (Leaf.bool k1) (Leaf.slice A1 l1 c1_))
   exact AS.StepsOk.nil
  ·intro u W7 hJ9 hF
   have h32 : PInt (rndQ x) 451 (u 32) W7 := AS.facts_get hF 32 (by simp [roundsFL6, AS.temps])
   have h34 : PInt (rndQ y) 451 (u 34) W7 := AS.facts_get hF 34 (by simp [roundsFL6, AS.temps])
   clear hF
   obtain ⟨hbel, g, vs, g2, vs2, hvs, hgB, hgB2, hne, bx, bx2⟩ := hJ9
   obtain ⟨k9, A9, l9, c9, ea⟩ := h32.open
   obtain ⟨k0, A0, l0, c0, eb⟩ := h34.open
   rw [ea] at h32
   rw [eb] at h34
   have f1 := (List.cons.inj hvs).1
   have f2 := (List.cons.inj (List.cons.inj hvs).2).1
   have f3 := (List.cons.inj (List.cons.inj (List.cons.inj hvs).2).2).1
   have f4 := (List.cons.inj (List.cons.inj (List.cons.inj (List.cons.inj hvs).2).2).2).1
   obtain rfl : vs = [.bool k9, .slice A9 l9 c9] := by
    rw [show u 32 = _ from ea] at f1
    have e2 := congrArg Array.toList (Value.agg.inj f1)
    simpa using e2.symm
   obtain rfl : vs2 = [.bool k0, .slice A0 l0 c0] := by
    rw [show u 34 = _ from eb] at f3
    have e2 := congrArg Array.toList (Value.agg.inj f3)
    simpa using e2.symm
   clear hvs f1 f3
   have HN := Lib.hid h32
   have HM2 := Lib.hid h34
   have b10 := Lib.hid bx
   have b11 := Lib.hid bx2
   clear h32 h34 bx bx2
   rw [show u 10 = _ from f2, show u 11 = _ from f4]
   clear f2 f4
   replace b5 := hup b5 hbel
   replace b6 := hup b6 hbel
   replace b7 := hup b7 hbel
   replace b8 := hup b8 hbel
   replace HX := Lib.hid (HX.out.kept (Keep.ofBelow hbel))
   replace HY := Lib.hid (HY.out.kept (Keep.ofBelow hbel))
   replace HA := Lib.hid (HA.out.kept (Keep.ofBelow hbel))
   have nbel := below_then HB6.out hbel HB6.out.size
   have HB8 := Lib.hid nbel
   clear nbel HB6 hbel x5_0 x5_1 x5_2 x5_3 x6_0 x6_1 x6_2 x6_3 x7_0 x7_1 x7_2 x7_3 x8_0 x8_1 x8_2 x8_3 szb s5 s6 s7 s8
   obtain ⟨x5_0, x5_1, x5_2, x5_3, s5⟩ := b5.out.d4
   obtain ⟨x6_0, x6_1, x6_2, x6_3, s6⟩ := b6.out.d4
   obtain ⟨x7_0, x7_1, x7_2, x7_3, s7⟩ := b7.out.d4
   obtain ⟨x8_0, x8_1, x8_2, x8_3, s8⟩ := b8.out.d4
   obtain ⟨x10_0, x10_1, s10⟩ := b10.out.d2
   obtain ⟨x11_0, x11_1, s11⟩ := b11.out.d2
   have szb := HB8.out.size
   go_wp2_with fail
   refine (of_fact (n := 1) (by decide) (by decide)).mono ?_
   rintro e W9 ⟨v2, rfl, hv2, hb⟩
   replace b5 := hup b5 hb
   replace b6 := hup b6 hb
   replace b7 := hup b7 hb
   replace b8 := hup b8 hb
   replace b10 := hup b10 hb
   replace b11 := hup b11 hb
   replace HX := Lib.hid (HX.out.kept (Keep.ofBelow hb))
   replace HY := Lib.hid (HY.out.kept (Keep.ofBelow hb))
   replace HA := Lib.hid (HA.out.kept (Keep.ofBelow hb))
   replace HN := Lib.hid (HN.out.kept (Keep.ofBelow hb))
   replace HM2 := Lib.hid (HM2.out.kept (Keep.ofBelow hb))
   have nbel := below_then HB8.out hb HB8.out.size
   have HB10 := Lib.hid nbel
   clear nbel HB8 hb x5_0 x5_1 x5_2 x5_3 x6_0 x6_1 x6_2 x6_3 x7_0 x7_1 x7_2 x7_3 x8_0 x8_1 x8_2 x8_3 x10_0 x10_1 x11_0 x11_1 szb s5 s6 s7 s8 s10 s11
   obtain ⟨x5_0, x5_1, x5_2, x5_3, s5⟩ := b5.out.d4
   obtain ⟨x6_0, x6_1, x6_2, x6_3, s6⟩ := b6.out.d4
   obtain ⟨x7_0, x7_1, x7_2, x7_3, s7⟩ := b7.out.d4
   obtain ⟨x8_0, x8_1, x8_2, x8_3, s8⟩ := b8.out.d4
   obtain ⟨x10_0, x10_1, s10⟩ := b10.out.d2
   obtain ⟨x11_0, x11_1, s11⟩ := b11.out.d2
   have szb := HB10.out.size
   obtain ⟨k5, A5, l5, c5, rfl⟩ := hv2.open
   have HO := Lib.hid hv2
   clear hv2
   go_upto_region 8 with (fail)
   have q11 := b5.out.lt
   have q12 := b6.out.lt
   have q13 := b7.out.lt
   have q14 := b8.out.lt
   have q15 := b10.out.lt
   have q16 := b11.out.lt
   change Code.wp Tryz.prog _ _ _ (W9.alloc (.cells #[.bool k5, .slice A5 l5 c5] 25))
   obtain ⟨nb12, na⟩ := new1 W9 25 [.bool k5, .slice A5 l5 c5] lf2
   have nb5 := b5.out.up na
   have nb6 := b6.out.up na
   have nb7 := b7.out.up na
   have nb8 := b8.out.up na
   have nb10 := b10.out.up na
   have nb11 := b11.out.up na
   have nkeep := Keep.ofBelow na
   have nbel := below_then HB10.out na HB10.out.size
   generalize W9.alloc (.cells #[.bool k5, .slice A5 l5 c5] 25) = W17 at *
   clear na x5_0 x5_1 x5_2 x5_3 x6_0 x6_1 x6_2 x6_3 x7_0 x7_1 x7_2 x7_3 x8_0 x8_1 x8_2 x8_3 x10_0 x10_1 x11_0 x11_1 szb s5 s6 s7 s8 s10 s11 b5 b6 b7 b8 b10 b11
   have b5 := Lib.hid nb5
   have b6 := Lib.hid nb6
   have b7 := Lib.hid nb7
   have b8 := Lib.hid nb8
   have b10 := Lib.hid nb10
   have b11 := Lib.hid nb11
   have b12 := Lib.hid nb12
   clear nb5 nb6 nb7 nb8 nb10 nb11 nb12
   replace HX := Lib.hid (HX.out.kept nkeep)
   replace HY := Lib.hid (HY.out.kept nkeep)
   replace HA := Lib.hid (HA.out.kept nkeep)
   replace HN := Lib.hid (HN.out.kept nkeep)
   replace HM2 := Lib.hid (HM2.out.kept nkeep)
   replace HO := Lib.hid (HO.out.kept nkeep)
   clear nkeep
   have HB18 := Lib.hid nbel
   clear nbel HB10
   obtain ⟨x5_0, x5_1, x5_2, x5_3, s5⟩ := b5.out.d4
   obtain ⟨x6_0, x6_1, x6_2, x6_3, s6⟩ := b6.out.d4
   obtain ⟨x7_0, x7_1, x7_2, x7_3, s7⟩ := b7.out.d4
   obtain ⟨x8_0, x8_1, x8_2, x8_3, s8⟩ := b8.out.d4
   obtain ⟨x10_0, x10_1, s10⟩ := b10.out.d2
   obtain ⟨x11_0, x11_1, s11⟩ := b11.out.d2
   obtain ⟨x12_0, x12_1, s12⟩ := b12.out.d2
   have szb := HB18.out.size
   go_wp2_with fail
   refine (new_ok HN.out HO.out (by decide) (by decide)).mono ?_
   rintro e W19 ⟨v, rfl, ⟨v0, rfl, hv⟩, hb⟩
   replace b5 := hup b5 hb
   replace b6 := hup b6 hb
   replace b7 := hup b7 hb
   replace b8 := hup b8 hb
   replace b10 := hup b10 hb
   replace b11 := hup b11 hb
   replace b12 := hup b12 hb
   replace HX := Lib.hid (HX.out.kept (Keep.ofBelow hb))
   replace HY := Lib.hid (HY.out.kept (Keep.ofBelow hb))
   replace HA := Lib.hid (HA.out.kept (Keep.ofBelow hb))
   replace HN := Lib.hid (HN.out.kept (Keep.ofBelow hb))
   replace HM2 := Lib.hid (HM2.out.kept (Keep.ofBelow hb))
   replace HO := Lib.hid (HO.out.kept (Keep.ofBelow hb))
   have nbel := below_then HB18.out hb HB18.out.size
   have HB20 := Lib.hid nbel
   clear nbel HB18 hb x5_0 x5_1 x5_2 x5_3 x6_0 x6_1 x6_2 x6_3 x7_0 x7_1 x7_2 x7_3 x8_0 x8_1 x8_2 x8_3 x10_0 x10_1 x11_0 x11_1 x12_0 x12_1 szb s5 s6 s7 s8 s10 s11 s12
   obtain ⟨x5_0, x5_1, x5_2, x5_3, s5⟩ := b5.out.d4
   obtain ⟨x6_0, x6_1, x6_2, x6_3, s6⟩ := b6.out.d4
   obtain ⟨x7_0, x7_1, x7_2, x7_3, s7⟩ := b7.out.d4
   obtain ⟨x8_0, x8_1, x8_2, x8_3, s8⟩ := b8.out.d4
   obtain ⟨x10_0, x10_1, s10⟩ := b10.out.d2
   obtain ⟨x11_0, x11_1, s11⟩ := b11.out.d2
   obtain ⟨x12_0, x12_1, s12⟩ := b12.out.d2
   have szb := HB20.out.size
   rw [divInt1] at hv
   obtain ⟨k6, A6, l6, c6, m6, E6, p6, q6, rfl⟩ := hv.open
   have HW := Lib.hid (hv.more (m := 500) (by decide))
   clear hv
   go_upto_region 9 with (fail)
   have q21 := b5.out.lt
   have q22 := b6.out.lt
   have q23 := b7.out.lt
   have q24 := b8.out.lt
   have q25 := b10.out.lt
   have q26 := b11.out.lt
   have q27 := b12.out.lt
   change Code.wp Tryz.prog _ _ _ (W19.alloc (.cells #[.bool k6, .slice A6 l6 c6, .bool m6, .slice E6 p6 q6] 27))
   obtain ⟨nb13, na⟩ := new1 W19 27 [.bool k6, .slice A6 l6 c6, .bool m6, .slice E6 p6 q6] lf4
   have nb5 := b5.out.up na
   have nb6 := b6.out.up na
   have nb7 := b7.out.up na
   have nb8 := b8.out.up na
   have nb10 := b10.out.up na
   have nb11 := b11.out.up na
   have nb12 := b12.out.up na
   have nkeep := Keep.ofBelow na
   have nbel := below_then HB20.out na HB20.out.size
   generalize W19.alloc (.cells #[.bool k6, .slice A6 l6 c6, .bool m6, .slice E6 p6 q6] 27) = W28 at *
   clear na x5_0 x5_1 x5_2 x5_3 x6_0 x6_1 x6_2 x6_3 x7_0 x7_1 x7_2 x7_3 x8_0 x8_1 x8_2 x8_3 x10_0 x10_1 x11_0 x11_1 x12_0 x12_1 szb s5 s6 s7 s8 s10 s11 s12 b5 b6 b7 b8 b10 b11 b12
   have b5 := Lib.hid nb5
   have b6 := Lib.hid nb6
   have b7 := Lib.hid nb7
   have b8 := Lib.hid nb8
   have b10 := Lib.hid nb10
   have b11 := Lib.hid nb11
   have b12 := Lib.hid nb12
   have b13 := Lib.hid nb13
   clear nb5 nb6 nb7 nb8 nb10 nb11 nb12 nb13
   replace HX := Lib.hid (HX.out.kept nkeep)
   replace HY := Lib.hid (HY.out.kept nkeep)
   replace HA := Lib.hid (HA.out.kept nkeep)
   replace HN := Lib.hid (HN.out.kept nkeep)
   replace HM2 := Lib.hid (HM2.out.kept nkeep)
   replace HO := Lib.hid (HO.out.kept nkeep)
   replace HW := Lib.hid (HW.out.kept nkeep)
   clear nkeep
   have HB29 := Lib.hid nbel
   clear nbel HB20
   obtain ⟨x5_0, x5_1, x5_2, x5_3, s5⟩ := b5.out.d4
   obtain ⟨x6_0, x6_1, x6_2, x6_3, s6⟩ := b6.out.d4
   obtain ⟨x7_0, x7_1, x7_2, x7_3, s7⟩ := b7.out.d4
   obtain ⟨x8_0, x8_1, x8_2, x8_3, s8⟩ := b8.out.d4
   obtain ⟨x10_0, x10_1, s10⟩ := b10.out.d2
   obtain ⟨x11_0, x11_1, s11⟩ := b11.out.d2
   obtain ⟨x12_0, x12_1, s12⟩ := b12.out.d2
   obtain ⟨x13_0, x13_1, x13_2, x13_3, s13⟩ := b13.out.d4
   have szb := HB29.out.size
   go_wp2_with fail
   refine (ofq_fact (a := 1) (b := 2) (by decide) (by decide) (by decide) (by decide) (by decide)).mono ?_
   rintro e W30 ⟨v, rfl, hv, hb⟩
   replace b5 := hup b5 hb
   replace b6 := hup b6 hb
   replace b7 := hup b7 hb
   replace b8 := hup b8 hb
   replace b10 := hup b10 hb
   replace b11 := hup b11 hb
   replace b12 := hup b12 hb
   replace b13 := hup b13 hb
   replace HX := Lib.hid (HX.out.kept (Keep.ofBelow hb))
   replace HY := Lib.hid (HY.out.kept (Keep.ofBelow hb))
   replace HA := Lib.hid (HA.out.kept (Keep.ofBelow hb))
   replace HN := Lib.hid (HN.out.kept (Keep.ofBelow hb))
   replace HM2 := Lib.hid (HM2.out.kept (Keep.ofBelow hb))
   replace HO := Lib.hid (HO.out.kept (Keep.ofBelow hb))
   replace HW := Lib.hid (HW.out.kept (Keep.ofBelow hb))
   have nbel := below_then HB29.out hb HB29.out.size
   have HB31 := Lib.hid nbel
   clear nbel HB29 hb x5_0 x5_1 x5_2 x5_3 x6_0 x6_1 x6_2 x6_3 x7_0 x7_1 x7_2 x7_3 x8_0 x8_1 x8_2 x8_3 x10_0 x10_1 x11_0 x11_1 x12_0 x12_1 x13_0 x13_1 x13_2 x13_3 szb s5 s6 s7 s8 s10 s11 s12 s13
   obtain ⟨x5_0, x5_1, x5_2, x5_3, s5⟩ := b5.out.d4
   obtain ⟨x6_0, x6_1, x6_2, x6_3, s6⟩ := b6.out.d4
   obtain ⟨x7_0, x7_1, x7_2, x7_3, s7⟩ := b7.out.d4
   obtain ⟨x8_0, x8_1, x8_2, x8_3, s8⟩ := b8.out.d4
   obtain ⟨x10_0, x10_1, s10⟩ := b10.out.d2
   obtain ⟨x11_0, x11_1, s11⟩ := b11.out.d2
   obtain ⟨x12_0, x12_1, s12⟩ := b12.out.d2
   obtain ⟨x13_0, x13_1, x13_2, x13_3, s13⟩ := b13.out.d4
   have szb := HB31.out.size
   obtain ⟨k7, A7, l7, c7, m7, E7, p7, q7, rfl⟩ := hv.open
   have HH := Lib.hid hv
   clear hv
   go_upto_region 10 with (fail)
   have q32 := b5.out.lt
   have q33 := b6.out.lt
   have q34 := b7.out.lt
   have q35 := b8.out.lt
   have q36 := b10.out.lt
   have q37 := b11.out.lt
   have q38 := b12.out.lt
   have q39 := b13.out.lt
   change Code.wp Tryz.prog _ _ _ (W30.alloc (.cells #[.bool k7, .slice A7 l7 c7, .bool m7, .slice E7 p7 q7] 27))
   obtain ⟨nb15, na⟩ := new1 W30 27 [.bool k7, .slice A7 l7 c7, .bool m7, .slice E7 p7 q7] lf4
   have nb5 := b5.out.up na
   have nb6 := b6.out.up na
   have nb7 := b7.out.up na
   have nb8 := b8.out.up na
   have nb10 := b10.out.up na
   have nb11 := b11.out.up na
   have nb12 := b12.out.up na
   have nb13 := b13.out.up na
   have nkeep := Keep.ofBelow na
   have nbel := below_then HB31.out na HB31.out.size
   generalize W30.alloc (.cells #[.bool k7, .slice A7 l7 c7, .bool m7, .slice E7 p7 q7] 27) = W40 at *
   clear na x5_0 x5_1 x5_2 x5_3 x6_0 x6_1 x6_2 x6_3 x7_0 x7_1 x7_2 x7_3 x8_0 x8_1 x8_2 x8_3 x10_0 x10_1 x11_0 x11_1 x12_0 x12_1 x13_0 x13_1 x13_2 x13_3 szb s5 s6 s7 s8 s10 s11 s12 s13 b5 b6 b7 b8 b10 b11 b12 b13
   have b5 := Lib.hid nb5
   have b6 := Lib.hid nb6
   have b7 := Lib.hid nb7
   have b8 := Lib.hid nb8
   have b10 := Lib.hid nb10
   have b11 := Lib.hid nb11
   have b12 := Lib.hid nb12
   have b13 := Lib.hid nb13
   have b15 := Lib.hid nb15
   clear nb5 nb6 nb7 nb8 nb10 nb11 nb12 nb13 nb15
   replace HX := Lib.hid (HX.out.kept nkeep)
   replace HY := Lib.hid (HY.out.kept nkeep)
   replace HA := Lib.hid (HA.out.kept nkeep)
   replace HN := Lib.hid (HN.out.kept nkeep)
   replace HM2 := Lib.hid (HM2.out.kept nkeep)
   replace HO := Lib.hid (HO.out.kept nkeep)
   replace HW := Lib.hid (HW.out.kept nkeep)
   replace HH := Lib.hid (HH.out.kept nkeep)
   clear nkeep
   have HB41 := Lib.hid nbel
   clear nbel HB31
   obtain ⟨x5_0, x5_1, x5_2, x5_3, s5⟩ := b5.out.d4
   obtain ⟨x6_0, x6_1, x6_2, x6_3, s6⟩ := b6.out.d4
   obtain ⟨x7_0, x7_1, x7_2, x7_3, s7⟩ := b7.out.d4
   obtain ⟨x8_0, x8_1, x8_2, x8_3, s8⟩ := b8.out.d4
   obtain ⟨x10_0, x10_1, s10⟩ := b10.out.d2
   obtain ⟨x11_0, x11_1, s11⟩ := b11.out.d2
   obtain ⟨x12_0, x12_1, s12⟩ := b12.out.d2
   obtain ⟨x13_0, x13_1, x13_2, x13_3, s13⟩ := b13.out.d4
   obtain ⟨x15_0, x15_1, x15_2, x15_3, s15⟩ := b15.out.d4
   have szb := HB41.out.size
   go_wp2_with fail
   refine (ratSub_fact (n := 500) (HX.out.more (by decide)) HW.out (by decide) (by decide)).mono ?_
   rintro e W42 ⟨v, rfl, hv, hb⟩
   replace b5 := hup b5 hb
   replace b6 := hup b6 hb
   replace b7 := hup b7 hb
   replace b8 := hup b8 hb
   replace b10 := hup b10 hb
   replace b11 := hup b11 hb
   replace b12 := hup b12 hb
   replace b13 := hup b13 hb
   replace b15 := hup b15 hb
   replace HX := Lib.hid (HX.out.kept (Keep.ofBelow hb))
   replace HY := Lib.hid (HY.out.kept (Keep.ofBelow hb))
   replace HA := Lib.hid (HA.out.kept (Keep.ofBelow hb))
   replace HN := Lib.hid (HN.out.kept (Keep.ofBelow hb))
   replace HM2 := Lib.hid (HM2.out.kept (Keep.ofBelow hb))
   replace HO := Lib.hid (HO.out.kept (Keep.ofBelow hb))
   replace HW := Lib.hid (HW.out.kept (Keep.ofBelow hb))
   replace HH := Lib.hid (HH.out.kept (Keep.ofBelow hb))
   have nbel := below_then HB41.out hb HB41.out.size
   have HB43 := Lib.hid nbel
   clear nbel HB41 hb x5_0 x5_1 x5_2 x5_3 x6_0 x6_1 x6_2 x6_3 x7_0 x7_1 x7_2 x7_3 x8_0 x8_1 x8_2 x8_3 x10_0 x10_1 x11_0 x11_1 x12_0 x12_1 x13_0 x13_1 x13_2 x13_3 x15_0 x15_1 x15_2 x15_3 szb s5 s6 s7 s8 s10 s11 s12 s13 s15
   obtain ⟨x5_0, x5_1, x5_2, x5_3, s5⟩ := b5.out.d4
   obtain ⟨x6_0, x6_1, x6_2, x6_3, s6⟩ := b6.out.d4
   obtain ⟨x7_0, x7_1, x7_2, x7_3, s7⟩ := b7.out.d4
   obtain ⟨x8_0, x8_1, x8_2, x8_3, s8⟩ := b8.out.d4
   obtain ⟨x10_0, x10_1, s10⟩ := b10.out.d2
   obtain ⟨x11_0, x11_1, s11⟩ := b11.out.d2
   obtain ⟨x12_0, x12_1, s12⟩ := b12.out.d2
   obtain ⟨x13_0, x13_1, x13_2, x13_3, s13⟩ := b13.out.d4
   obtain ⟨x15_0, x15_1, x15_2, x15_3, s15⟩ := b15.out.d4
   have szb := HB43.out.size
   obtain ⟨k8, A8, l8, c8, m8, E8, p8, q8, rfl⟩ := hv.open
   have HD := Lib.hid hv
   clear hv
   go_upto_region 11 with (fail)
   have q44 := b5.out.lt
   have q45 := b6.out.lt
   have q46 := b7.out.lt
   have q47 := b8.out.lt
   have q48 := b10.out.lt
   have q49 := b11.out.lt
   have q50 := b12.out.lt
   have q51 := b13.out.lt
   have q52 := b15.out.lt
   change Code.wp Tryz.prog _ _ _ (W42.alloc (.cells #[.bool k8, .slice A8 l8 c8, .bool m8, .slice E8 p8 q8] 27))
   obtain ⟨nb17, na⟩ := new1 W42 27 [.bool k8, .slice A8 l8 c8, .bool m8, .slice E8 p8 q8] lf4
   have nb5 := b5.out.up na
   have nb6 := b6.out.up na
   have nb7 := b7.out.up na
   have nb8 := b8.out.up na
   have nb10 := b10.out.up na
   have nb11 := b11.out.up na
   have nb12 := b12.out.up na
   have nb13 := b13.out.up na
   have nb15 := b15.out.up na
   have nkeep := Keep.ofBelow na
   have nbel := below_then HB43.out na HB43.out.size
   generalize W42.alloc (.cells #[.bool k8, .slice A8 l8 c8, .bool m8, .slice E8 p8 q8] 27) = W53 at *
   clear na x5_0 x5_1 x5_2 x5_3 x6_0 x6_1 x6_2 x6_3 x7_0 x7_1 x7_2 x7_3 x8_0 x8_1 x8_2 x8_3 x10_0 x10_1 x11_0 x11_1 x12_0 x12_1 x13_0 x13_1 x13_2 x13_3 x15_0 x15_1 x15_2 x15_3 szb s5 s6 s7 s8 s10 s11 s12 s13 s15 b5 b6 b7 b8 b10 b11 b12 b13 b15
   have b5 := Lib.hid nb5
   have b6 := Lib.hid nb6
   have b7 := Lib.hid nb7
   have b8 := Lib.hid nb8
   have b10 := Lib.hid nb10
   have b11 := Lib.hid nb11
   have b12 := Lib.hid nb12
   have b13 := Lib.hid nb13
   have b15 := Lib.hid nb15
   have b17 := Lib.hid nb17
   clear nb5 nb6 nb7 nb8 nb10 nb11 nb12 nb13 nb15 nb17
   replace HX := Lib.hid (HX.out.kept nkeep)
   replace HY := Lib.hid (HY.out.kept nkeep)
   replace HA := Lib.hid (HA.out.kept nkeep)
   replace HN := Lib.hid (HN.out.kept nkeep)
   replace HM2 := Lib.hid (HM2.out.kept nkeep)
   replace HO := Lib.hid (HO.out.kept nkeep)
   replace HW := Lib.hid (HW.out.kept nkeep)
   replace HH := Lib.hid (HH.out.kept nkeep)
   replace HD := Lib.hid (HD.out.kept nkeep)
   clear nkeep
   have HB54 := Lib.hid nbel
   clear nbel HB43
   obtain ⟨x5_0, x5_1, x5_2, x5_3, s5⟩ := b5.out.d4
   obtain ⟨x6_0, x6_1, x6_2, x6_3, s6⟩ := b6.out.d4
   obtain ⟨x7_0, x7_1, x7_2, x7_3, s7⟩ := b7.out.d4
   obtain ⟨x8_0, x8_1, x8_2, x8_3, s8⟩ := b8.out.d4
   obtain ⟨x10_0, x10_1, s10⟩ := b10.out.d2
   obtain ⟨x11_0, x11_1, s11⟩ := b11.out.d2
   obtain ⟨x12_0, x12_1, s12⟩ := b12.out.d2
   obtain ⟨x13_0, x13_1, x13_2, x13_3, s13⟩ := b13.out.d4
   obtain ⟨x15_0, x15_1, x15_2, x15_3, s15⟩ := b15.out.d4
   obtain ⟨x17_0, x17_1, x17_2, x17_3, s17⟩ := b17.out.d4
   have szb := HB54.out.size
   have HTW := Lib.hid (tab_up HT.out HB54.out)
   refine AS.region_facts (roundsFL11 x d1 d2) (JNo W53) [[], [49], [50], [51], [51, 52], [51, 53], [54], [55], [55], [55, 56, 57], [55, 58], [55, 59], [60], [61], [61], [61, 63], [61, 62, 64], [61, 65], [61, 66]] [] [[]] [0, 0, 0, 0, 0, 0, 0, 0, 0, 0, 0, 0, 0, 0, 0, 0, 0, 0, 0] [] (fun u => by simp only [roundsFL11, AS.temps, List.map_cons, List.map_nil, fillL, List.setIfInBounds_toArray, List.set_cons_zero, List.set_cons_succ]; rfl) (by kernel_rfl) (by kernel_rfl) (JNo.st W53) (below_drew (Below.refl _ _)) ?_ ?_
   ·refine AS.sc rfl rfl rfl ?_ ?_
    ·intro k_ u w_ hk hJ hF K hK
     clear hF
     go_simp
     exact hK.out _ _ (Below.refl _ _) (rfl) trivial
    refine AS.sc rfl rfl rfl ?_ ?_
    ·intro k_ u w_ hk hJ hF K hK
     have h49 : u 49 = .int .i64 0 := AS.facts_get hF 49 (by simp)
     clear hF
     simp only [h49] at hK ⊢
     clear h49
     go_simp
     exact hK.out _ _ (Below.refl _ _) (rfl) trivial
    refine AS.sc rfl rfl rfl ?_ ?_
    ·intro k_ u w_ hk hJ hF K hK
     have h50 : u 50 = .bool false := AS.facts_get hF 50 (by simp)
     clear hF
     simp only [h50] at hK ⊢
     clear h50
     go_simp
     exact hK.out _ _ (Below.refl _ _) (rfl) trivial
    refine AS.sc rfl rfl rfl ?_ ?_
    ·intro k_ u w_ hk hJ hF K hK
     have h51 : u 51 = .bool false := AS.facts_get hF 51 (by simp)
     clear hF
     simp only [h51] at hK ⊢
     clear h51
     go_simp
     exact hK.out _ _ (Below.refl _ _) (rfl) trivial
    refine AS.sc rfl rfl rfl ?_ ?_
    ·intro k_ u w_ hk hJ hF K hK
     have h51 : u 51 = .bool false := AS.facts_get hF 51 (by simp)
     have h52 : u 52 = .int .i64 0 := AS.facts_get hF 52 (by simp)
     clear hF
     simp only [h51, h52] at hK ⊢
     clear h51 h52
     go_simp
     exact hK.out _ _ (Below.refl _ _) (rfl) trivial
    refine AS.sc rfl rfl rfl ?_ ?_
    ·intro k_ u w_ hk hJ hF K hK
     have h51 : u 51 = .bool false := AS.facts_get hF 51 (by simp)
     have h53 : u 53 = .bool false := AS.facts_get hF 53 (by simp)
     clear hF
     simp only [h51, h53] at hK ⊢
     clear h51 h53
     go_simp
     exact hK.out _ _ (Below.refl _ _) (rfl) trivial
    refine AS.sc rfl rfl rfl ?_ ?_
    ·intro k_ u w_ hk hJ hF K hK
     have h54 : u 54 = .bool false := AS.facts_get hF 54 (by simp)
     clear hF
     simp only [h54] at hK ⊢
     clear h54
     go_simp
     exact hK.out _ _ (Below.refl _ _) (rfl) trivial
    refine AS.sc rfl rfl rfl ?_ ?_
    ·intro k_ u w_ hk hJ hF K hK
     have h55 : u 55 = .bool false := AS.facts_get hF 55 (by simp)
     clear hF
     simp only [h55] at hK ⊢
     clear h55
     obtain rfl : k_ = 0 := Nat.le_zero.1 hk
     have hJ0 : Below W53.heap.size W53 w_ := hJ
     obtain ⟨y0, y1, y2, y3⟩ := ((b17.out).up hJ0).c4
     go_simp
     exact hK.out _ _ (Below.refl _ _) ((HD.out).kept (Keep.ofBelow hJ0)) trivial
    refine AS.sc rfl rfl rfl ?_ ?_
    ·intro k_ u w_ hk hJ hF K hK
     have h55 : u 55 = .bool false := AS.facts_get hF 55 (by simp)
     clear hF
     simp only [h55] at hK ⊢
     clear h55
     obtain rfl : k_ = 0 := Nat.le_zero.1 hk
     have hJ0 : Below W53.heap.size W53 w_ := hJ
     obtain ⟨y0, y1, y2, y3⟩ := ((b15.out).up hJ0).c4
     go_simp
     exact hK.out _ _ (Below.refl _ _) ((HH.out).kept (Keep.ofBelow hJ0)) trivial
    refine AS.sc rfl rfl rfl ?_ ?_
    ·intro k_ u w_ hk hJ hF K hK
     have h55 : u 55 = .bool false := AS.facts_get hF 55 (by simp)
     have h56 : PRat (x - (rndQ x : Rat)) 2006 (u 56) w_ := AS.facts_get hF 56 (by simp)
     have h57 : PRat (Rat.divInt 1 2) 4 (u 57) w_ := AS.facts_get hF 57 (by simp)
     clear hF
     simp only [h55] at hK ⊢
     clear h55
     go_simp
     refine (ratCmp_is (n := 2006) (h56.more (by decide)) (h57.more (by decide)) (by decide) (by decide) Qhc1.out).mono ?_
     rintro e w' ⟨rfl, hb⟩
     exact hK.out _ _ hb (rfl) trivial
    refine AS.sc rfl rfl rfl ?_ ?_
    ·intro k_ u w_ hk hJ hF K hK
     have h55 : u 55 = .bool false := AS.facts_get hF 55 (by simp)
     have h58 : u 58 = .int .i64 (d1) := AS.facts_get hF 58 (by simp)
     clear hF
     simp only [h55, h58] at hK ⊢
     clear h55 h58
     have hq := Qhn1.out
     go_simp
     exact hK.out _ _ (Below.refl _ _) (rfl) trivial
    refine AS.sc rfl rfl rfl ?_ ?_
    ·intro k_ u w_ hk hJ hF K hK
     have h55 : u 55 = .bool false := AS.facts_get hF 55 (by simp)
     have h59 : u 59 = .bool false := AS.facts_get hF 59 (by simp)
     clear hF
     simp only [h55, h59] at hK ⊢
     clear h55 h59
     go_simp
     exact hK.out _ _ (Below.refl _ _) (rfl) trivial
    refine AS.sc rfl rfl rfl ?_ ?_
    ·intro k_ u w_ hk hJ hF K hK
     have h60 : u 60 = .bool false := AS.facts_get hF 60 (by simp)
     clear hF
     simp only [h60] at hK ⊢
     clear h60
     go_simp
     exact hK.out _ _ (Below.refl _ _) (rfl) trivial
    refine AS.sc rfl rfl rfl ?_ ?_
    ·intro k_ u w_ hk hJ hF K hK
     have h61 : u 61 = .bool false := AS.facts_get hF 61 (by simp)
     clear hF
     simp only [h61] at hK ⊢
     clear h61
     obtain rfl : k_ = 0 := Nat.le_zero.1 hk
     have hJ0 : Below W53.heap.size W53 w_ := hJ
     obtain ⟨y0, y1, y2, y3⟩ := ((b17.out).up hJ0).c4
     go_simp
     exact hK.out _ _ (Below.refl _ _) ((HD.out).kept (Keep.ofBelow hJ0)) trivial
    refine AS.sc rfl rfl rfl ?_ ?_
    ·intro k_ u w_ hk hJ hF K hK
     have h61 : u 61 = .bool false := AS.facts_get hF 61 (by simp)
     clear hF
     simp only [h61] at hK ⊢
     clear h61
     obtain rfl : k_ = 0 := Nat.le_zero.1 hk
     have hJ0 : Below W53.heap.size W53 w_ := hJ
     obtain ⟨y0, y1, y2, y3⟩ := ((b15.out).up hJ0).c4
     go_simp
     exact hK.out _ _ (Below.refl _ _) ((HH.out).kept (Keep.ofBelow hJ0)) trivial
    refine AS.sc rfl rfl rfl ?_ ?_
    ·intro k_ u w_ hk hJ hF K hK
     have h61 : u 61 = .bool false := AS.facts_get hF 61 (by simp)
     have h63 : PRat (Rat.divInt 1 2) 4 (u 63) w_ := AS.facts_get hF 63 (by simp)
     clear hF
     simp only [h61] at hK ⊢
     clear h61
     go_simp
     refine (ratNeg_fact h63 (by decide) (by decide)).mono ?_
     rintro e w' ⟨v, rfl, hv, hb⟩
     exact hK.out _ _ hb (hv) trivial
    refine AS.sc rfl rfl rfl ?_ ?_
    ·intro k_ u w_ hk hJ hF K hK
     have h61 : u 61 = .bool false := AS.facts_get hF 61 (by simp)
     have h62 : PRat (x - (rndQ x : Rat)) 2006 (u 62) w_ := AS.facts_get hF 62 (by simp)
     have h64 : PRat (-(Rat.divInt 1 2)) 5 (u 64) w_ := AS.facts_get hF 64 (by simp)
     clear hF
     simp only [h61] at hK ⊢
     clear h61
     go_simp
     refine (ratCmp_is (n := 2006) (h62.more (by decide)) (h64.more (by decide)) (by decide) (by decide) Qhc2.out).mono ?_
     rintro e w' ⟨rfl, hb⟩
     exact hK.out _ _ hb (rfl) trivial
    refine AS.sc rfl rfl rfl ?_ ?_
    ·intro k_ u w_ hk hJ hF K hK
     have h61 : u 61 = .bool false := AS.facts_get hF 61 (by simp)
     have h65 : u 65 = .int .i64 (d2) := AS.facts_get hF 65 (by simp)
     clear hF
     simp only [h61, h65] at hK ⊢
     clear h61 h65
     have hq := Qhn2.out
     go_simp
     exact hK.out _ _ (Below.refl _ _) (rfl) trivial
    refine AS.sc rfl rfl rfl ?_ ?_
    ·intro k_ u w_ hk hJ hF K hK
     have h61 : u 61 = .bool false := AS.facts_get hF 61 (by simp)
     have h66 : u 66 = .bool false := AS.facts_get hF 66 (by simp)
     clear hF
     simp only [h61, h66] at hK ⊢
     clear h61 h66
     go_simp
     exact hK.out _ _ (Below.refl _ _) (rfl) trivial
    exact AS.StepsOk.nil
   ·intro u W55 hJ9 hF
    have h67 : u 67 = .bool false := AS.facts_get hF 67 (by simp [roundsFL11, AS.temps])
    clear hF
    rw [show u 67 = _ from h67]
    clear h67 HTW
    replace b5 := hup b5 hJ9
    replace b6 := hup b6 hJ9
    replace b7 := hup b7 hJ9
    replace b8 := hup b8 hJ9
    replace b10 := hup b10 hJ9
    replace b11 := hup b11 hJ9
    replace b12 := hup b12 hJ9
    replace b13 := hup b13 hJ9
    replace b15 := hup b15 hJ9
    replace b17 := hup b17 hJ9
    replace HX := Lib.hid (HX.out.kept (Keep.ofBelow hJ9))
    replace HY := Lib.hid (HY.out.kept (Keep.ofBelow hJ9))
    replace HA := Lib.hid (HA.out.kept (Keep.ofBelow hJ9))
    replace HN := Lib.hid (HN.out.kept (Keep.ofBelow hJ9))
    replace HM2 := Lib.hid (HM2.out.kept (Keep.ofBelow hJ9))
    replace HO := Lib.hid (HO.out.kept (Keep.ofBelow hJ9))
    replace HW := Lib.hid (HW.out.kept (Keep.ofBelow hJ9))
    replace HH := Lib.hid (HH.out.kept (Keep.ofBelow hJ9))
    replace HD := Lib.hid (HD.out.kept (Keep.ofBelow hJ9))
    have nbel := below_then HB54.out hJ9 HB54.out.size
    have HB56 := Lib.hid nbel
    clear nbel HB54 hJ9 x5_0 x5_1 x5_2 x5_3 x6_0 x6_1 x6_2 x6_3 x7_0 x7_1 x7_2 x7_3 x8_0 x8_1 x8_2 x8_3 x10_0 x10_1 x11_0 x11_1 x12_0 x12_1 x13_0 x13_1 x13_2 x13_3 x15_0 x15_1 x15_2 x15_3 x17_0 x17_1 x17_2 x17_3 szb s5 s6 s7 s8 s10 s11 s12 s13 s15 s17
    obtain ⟨x5_0, x5_1, x5_2, x5_3, s5⟩ := b5.out.d4
    obtain ⟨x6_0, x6_1, x6_2, x6_3, s6⟩ := b6.out.d4
    obtain ⟨x7_0, x7_1, x7_2, x7_3, s7⟩ := b7.out.d4
    obtain ⟨x8_0, x8_1, x8_2, x8_3, s8⟩ := b8.out.d4
    obtain ⟨x10_0, x10_1, s10⟩ := b10.out.d2
    obtain ⟨x11_0, x11_1, s11⟩ := b11.out.d2
    obtain ⟨x12_0, x12_1, s12⟩ := b12.out.d2
    obtain ⟨x13_0, x13_1, x13_2, x13_3, s13⟩ := b13.out.d4
    obtain ⟨x15_0, x15_1, x15_2, x15_3, s15⟩ := b15.out.d4
    obtain ⟨x17_0, x17_1, x17_2, x17_3, s17⟩ := b17.out.d4
    have szb := HB56.out.size
    go_upto_region 13 with (fail)
    have HTW := Lib.hid (tab_up HT.out HB56.out)
    refine AS.region_facts (roundsFL13 x y d3 d4 m) (JNo W55) [[], [], [68, 69], [], [], [71, 72], [70, 73], [74]] [] [[]] [0, 0, 0, 0, 0, 0, 0, 0] [] (fun u => by simp only [roundsFL13, AS.temps, List.map_cons, List.map_nil, fillL, List.setIfInBounds_toArray, List.set_cons_zero, List.set_cons_succ]; rfl) (by kernel_rfl) (by kernel_rfl) (JNo.st W55) (below_drew (Below.refl _ _)) ?_ ?_
    ·refine AS.sc rfl rfl rfl ?_ ?_
     ·intro k_ u w_ hk hJ hF K hK
      clear hF
      obtain rfl : k_ = 0 := Nat.le_zero.1 hk
      have hJ0 : Below W55.heap.size W55 w_ := hJ
      obtain ⟨y0, y1, y2, y3⟩ := ((b5.out).up hJ0).c4
      go_simp
      exact hK.out _ _ (Below.refl _ _) ((HX.out).kept (Keep.ofBelow hJ0)) trivial
     refine AS.sc rfl rfl rfl ?_ ?_
     ·intro k_ u w_ hk hJ hF K hK
      clear hF
      obtain rfl : k_ = 0 := Nat.le_zero.1 hk
      have hJ0 : Below W55.heap.size W55 w_ := hJ
      obtain ⟨y0, y1, y2, y3⟩ := ((b6.out).up hJ0).c4
      go_simp
      exact hK.out _ _ (Below.refl _ _) ((HY.out).kept (Keep.ofBelow hJ0)) trivial
     refine AS.sc rfl rfl rfl ?_ ?_
     ·intro k_ u w_ hk hJ hF K hK
      have h68 : PRat (x) 223 (u 68) w_ := AS.facts_get hF 68 (by simp)
      have h69 : PRat (y) 223 (u 69) w_ := AS.facts_get hF 69 (by simp)
      clear hF
      go_simp
      refine (ratCmp_is (n := 223) (h68.more (by decide)) (h69.more (by decide)) (by decide) (by decide) Qhc3.out).mono ?_
      rintro e w' ⟨rfl, hb⟩
      exact hK.out _ _ hb (rfl) trivial
     refine AS.sc rfl rfl rfl ?_ ?_
     ·intro k_ u w_ hk hJ hF K hK
      clear hF
      obtain rfl : k_ = 0 := Nat.le_zero.1 hk
      have hJ0 : Below W55.heap.size W55 w_ := hJ
      obtain ⟨y0, y1⟩ := ((b10.out).up hJ0).c2
      go_simp
      exact hK.out _ _ (Below.refl _ _) ((HN.out).kept (Keep.ofBelow hJ0)) trivial
     refine AS.sc rfl rfl rfl ?_ ?_
     ·intro k_ u w_ hk hJ hF K hK
      clear hF
      obtain rfl : k_ = 0 := Nat.le_zero.1 hk
      have hJ0 : Below W55.heap.size W55 w_ := hJ
      obtain ⟨y0, y1⟩ := ((b11.out).up hJ0).c2
      go_simp
      exact hK.out _ _ (Below.refl _ _) ((HM2.out).kept (Keep.ofBelow hJ0)) trivial
     refine AS.sc rfl rfl rfl ?_ ?_
     ·intro k_ u w_ hk hJ hF K hK
      have h71 : PInt (rndQ x) 451 (u 71) w_ := AS.facts_get hF 71 (by simp)
      have h72 : PInt (rndQ y) 451 (u 72) w_ := AS.facts_get hF 72 (by simp)
      clear hF
      go_simp
      refine (cmp_is h71 h72 (by decide) (by decide) Qhc4.out).mono ?_
      rintro e w' ⟨rfl, hb⟩
      exact hK.out _ _ hb (rfl) trivial
     refine AS.sc rfl rfl rfl ?_ ?_
     ·intro k_ u w_ hk hJ hF K hK
      have h70 : u 70 = .int .i64 (d3) := AS.facts_get hF 70 (by simp)
      have h73 : u 73 = .int .i64 (d4) := AS.facts_get hF 73 (by simp)
      clear hF
      simp only [h70, h73] at hK ⊢
      clear h70 h73
      have hq := Qhw1.out
      go_simp
      exact hK.out _ _ (Below.refl _ _) (rfl) trivial
     refine AS.sc rfl rfl rfl ?_ ?_
     ·intro k_ u w_ hk hJ hF K hK
      have h74 : u 74 = .int .i64 (m) := AS.facts_get hF 74 (by simp)
      clear hF
      simp only [h74] at hK ⊢
      clear h74
      have hq := Qhn3.out
      go_simp
      exact hK.out _ _ (Below.refl _ _) (rfl) trivial
     exact AS.StepsOk.nil
    ·intro u W57 hJ9 hF
     have h75 : u 75 = .bool false := AS.facts_get hF 75 (by simp [roundsFL13, AS.temps])
     clear hF
     rw [show u 75 = _ from h75]
     clear h75 HTW
     replace b5 := hup b5 hJ9
     replace b6 := hup b6 hJ9
     replace b7 := hup b7 hJ9
     replace b8 := hup b8 hJ9
     replace b10 := hup b10 hJ9
     replace b11 := hup b11 hJ9
     replace b12 := hup b12 hJ9
     replace b13 := hup b13 hJ9
     replace b15 := hup b15 hJ9
     replace b17 := hup b17 hJ9
     replace HX := Lib.hid (HX.out.kept (Keep.ofBelow hJ9))
     replace HY := Lib.hid (HY.out.kept (Keep.ofBelow hJ9))
     replace HA := Lib.hid (HA.out.kept (Keep.ofBelow hJ9))
     replace HN := Lib.hid (HN.out.kept (Keep.ofBelow hJ9))
     replace HM2 := Lib.hid (HM2.out.kept (Keep.ofBelow hJ9))
     replace HO := Lib.hid (HO.out.kept (Keep.ofBelow hJ9))
     replace HW := Lib.hid (HW.out.kept (Keep.ofBelow hJ9))
     replace HH := Lib.hid (HH.out.kept (Keep.ofBelow hJ9))
     replace HD := Lib.hid (HD.out.kept (Keep.ofBelow hJ9))
     have nbel := below_then HB56.out hJ9 HB56.out.size
     have HB58 := Lib.hid nbel
     clear nbel HB56 hJ9 x5_0 x5_1 x5_2 x5_3 x6_0 x6_1 x6_2 x6_3 x7_0 x7_1 x7_2 x7_3 x8_0 x8_1 x8_2 x8_3 x10_0 x10_1 x11_0 x11_1 x12_0 x12_1 x13_0 x13_1 x13_2 x13_3 x15_0 x15_1 x15_2 x15_3 x17_0 x17_1 x17_2 x17_3 szb s5 s6 s7 s8 s10 s11 s12 s13 s15 s17
     obtain ⟨x5_0, x5_1, x5_2, x5_3, s5⟩ := b5.out.d4
     obtain ⟨x6_0, x6_1, x6_2, x6_3, s6⟩ := b6.out.d4
     obtain ⟨x7_0, x7_1, x7_2, x7_3, s7⟩ := b7.out.d4
     obtain ⟨x8_0, x8_1, x8_2, x8_3, s8⟩ := b8.out.d4
     obtain ⟨x10_0, x10_1, s10⟩ := b10.out.d2
     obtain ⟨x11_0, x11_1, s11⟩ := b11.out.d2
     obtain ⟨x12_0, x12_1, s12⟩ := b12.out.d2
     obtain ⟨x13_0, x13_1, x13_2, x13_3, s13⟩ := b13.out.d4
     obtain ⟨x15_0, x15_1, x15_2, x15_3, s15⟩ := b15.out.d4
     obtain ⟨x17_0, x17_1, x17_2, x17_3, s17⟩ := b17.out.d4
     have szb := HB58.out.size
     go_upto_region 15 with (fail)
     have HTW := Lib.hid (tab_up HT.out HB58.out)
     refine AS.region_facts (roundsFL15 x) (JNo W57) [[], [76], [], [78], [79], [77, 80], [81], [82], [82, 83], [82, 84], [82, 85], [82], [82, 87], [82, 88], [82, 86, 89], [82, 90], [91]] [] [[]] [0, 0, 0, 0, 0, 0, 0, 0, 0, 0, 0, 0, 0, 0, 0, 0, 0] [] (fun u => by simp only [roundsFL15, AS.temps, List.map_cons, List.map_nil, fillL, List.setIfInBounds_toArray, List.set_cons_zero, List.set_cons_succ]; rfl) (by kernel_rfl) (by kernel_rfl) (JNo.st W57) (below_drew (Below.refl _ _)) ?_ ?_
     ·refine AS.sc rfl rfl rfl ?_ ?_
      ·intro k_ u w_ hk hJ hF K hK
       clear hF
       obtain rfl : k_ = 0 := Nat.le_zero.1 hk
       have hJ0 : Below W57.heap.size W57 w_ := hJ
       obtain ⟨y0, y1⟩ := ((b10.out).up hJ0).c2
       go_simp
       exact hK.out _ _ (Below.refl _ _) ((HN.out).kept (Keep.ofBelow hJ0)) trivial
      refine AS.sc rfl rfl rfl ?_ ?_
      ·intro k_ u w_ hk hJ hF K hK
       have h76 : PInt (rndQ x) 451 (u 76) w_ := AS.facts_get hF 76 (by simp)
       clear hF
       go_simp
       refine (text_fact h76 (by decide) (tab_up HTW.out hJ)).mono ?_
       rintro e w' ⟨rfl, hb⟩
       exact hK.out _ _ hb (rfl) trivial
      refine AS.sc rfl rfl rfl ?_ ?_
      ·intro k_ u w_ hk hJ hF K hK
       clear hF
       obtain rfl : k_ = 0 := Nat.le_zero.1 hk
       have hJ0 : Below W57.heap.size W57 w_ := hJ
       obtain ⟨y0, y1, y2, y3⟩ := ((b7.out).up hJ0).c4
       go_simp
       exact hK.out _ _ (Below.refl _ _) ((HA.out).kept (Keep.ofBelow hJ0)) trivial
      refine AS.sc rfl rfl rfl ?_ ?_
      ·intro k_ u w_ hk hJ hF K hK
       have h78 : RRat (x) 500 (u 78) w_ := AS.facts_get hF 78 (by simp)
       clear hF
       go_simp
       refine (rround_fact h78 (by decide) (by decide)).mono ?_
       rintro e w' ⟨v, rfl, hv, hb⟩
       exact hK.out _ _ hb (hv) trivial
      refine AS.sc rfl rfl rfl ?_ ?_
      ·intro k_ u w_ hk hJ hF K hK
       have h79 : PRef (rndQ x) 1006 (u 79) w_ := AS.facts_get hF 79 (by simp)
       clear hF
       go_simp
       refine (rtext_fact h79 (by decide)).mono ?_
       rintro e w' ⟨rfl, hb⟩
       exact hK.out _ _ hb (rfl) trivial
      refine AS.sc rfl rfl rfl ?_ ?_
      ·intro k_ u w_ hk hJ hF K hK
       have h77 : u 77 = .string ⟨(decZ (rndQ x)).toArray⟩ := AS.facts_get hF 77 (by simp)
       have h80 : u 80 = .string ⟨(decZ (rndQ x)).toArray⟩ := AS.facts_get hF 80 (by simp)
       clear hF
       simp only [h77, h80] at hK ⊢
       clear h77 h80
       go_simp
       exact hK.out _ _ (Below.refl _ _) (rfl) trivial
      refine AS.sc rfl rfl rfl ?_ ?_
      ·intro k_ u w_ hk hJ hF K hK
       have h81 : u 81 = .bool true := AS.facts_get hF 81 (by simp)
       clear hF
       simp only [h81] at hK ⊢
       clear h81
       go_simp
       exact hK.out _ _ (Below.refl _ _) (rfl) trivial
      refine AS.sc rfl rfl rfl ?_ ?_
      ·intro k_ u w_ hk hJ hF K hK
       have h82 : u 82 = .bool true := AS.facts_get hF 82 (by simp)
       clear hF
       simp only [h82] at hK ⊢
       clear h82
       obtain rfl : k_ = 0 := Nat.le_zero.1 hk
       have hJ0 : Below W57.heap.size W57 w_ := hJ
       obtain ⟨y0, y1, y2, y3⟩ := ((b5.out).up hJ0).c4
       go_simp
       exact hK.out _ _ (Below.refl _ _) ((HX.out).kept (Keep.ofBelow hJ0)) trivial
      refine AS.sc rfl rfl rfl ?_ ?_
      ·intro k_ u w_ hk hJ hF K hK
       have h82 : u 82 = .bool true := AS.facts_get hF 82 (by simp)
       have h83 : PRat (x) 223 (u 83) w_ := AS.facts_get hF 83 (by simp)
       clear hF
       simp only [h82] at hK ⊢
       clear h82
       go_simp
       refine (ratNeg_fact h83 (by decide) (by decide)).mono ?_
       rintro e w' ⟨v, rfl, hv, hb⟩
       exact hK.out _ _ hb (hv) trivial
      refine AS.sc rfl rfl rfl ?_ ?_
      ·intro k_ u w_ hk hJ hF K hK
       have h82 : u 82 = .bool true := AS.facts_get hF 82 (by simp)
       have h84 : PRat (-x) 224 (u 84) w_ := AS.facts_get hF 84 (by simp)
       clear hF
       simp only [h82] at hK ⊢
       clear h82
       go_simp
       refine (ratRound_fact h84 (by decide) (by decide)).mono ?_
       rintro e w' ⟨v, rfl, hv, hb⟩
       exact hK.out _ _ hb (by rw [rndQ_neg] at hv; exact hv) trivial
      refine AS.sc rfl rfl rfl ?_ ?_
      ·intro k_ u w_ hk hJ hF K hK
       have h82 : u 82 = .bool true := AS.facts_get hF 82 (by simp)
       have h85 : PInt (-(rndQ x)) 453 (u 85) w_ := AS.facts_get hF 85 (by simp)
       clear hF
       simp only [h82] at hK ⊢
       clear h82
       go_simp
       refine (text_fact h85 (by decide) (tab_up HTW.out hJ)).mono ?_
       rintro e w' ⟨rfl, hb⟩
       exact hK.out _ _ hb (rfl) trivial
      refine AS.sc rfl rfl rfl ?_ ?_
      ·intro k_ u w_ hk hJ hF K hK
       have h82 : u 82 = .bool true := AS.facts_get hF 82 (by simp)
       clear hF
       simp only [h82] at hK ⊢
       clear h82
       obtain rfl : k_ = 0 := Nat.le_zero.1 hk
       have hJ0 : Below W57.heap.size W57 w_ := hJ
       obtain ⟨y0, y1⟩ := ((b10.out).up hJ0).c2
       go_simp
       exact hK.out _ _ (Below.refl _ _) ((HN.out).kept (Keep.ofBelow hJ0)) trivial
      refine AS.sc rfl rfl rfl ?_ ?_
      ·intro k_ u w_ hk hJ hF K hK
       have h82 : u 82 = .bool true := AS.facts_get hF 82 (by simp)
       have h87 : PInt (rndQ x) 451 (u 87) w_ := AS.facts_get hF 87 (by simp)
       clear hF
       simp only [h82] at hK ⊢
       clear h82
       go_simp
       refine (neg_fact h87 (by decide)).mono ?_
       rintro e w' ⟨v, rfl, hv, hb⟩
       exact hK.out _ _ hb (hv.more (by decide)) trivial
      refine AS.sc rfl rfl rfl ?_ ?_
      ·intro k_ u w_ hk hJ hF K hK
       have h82 : u 82 = .bool true := AS.facts_get hF 82 (by simp)
       have h88 : PInt (-(rndQ x)) 453 (u 88) w_ := AS.facts_get hF 88 (by simp)
       clear hF
       simp only [h82] at hK ⊢
       clear h82
       go_simp
       refine (text_fact h88 (by decide) (tab_up HTW.out hJ)).mono ?_
       rintro e w' ⟨rfl, hb⟩
       exact hK.out _ _ hb (rfl) trivial
      refine AS.sc rfl rfl rfl ?_ ?_
      ·intro k_ u w_ hk hJ hF K hK
       have h82 : u 82 = .bool true := AS.facts_get hF 82 (by simp)
       have h86 : u 86 = .string ⟨(decZ (-(rndQ x))).toArray⟩ := AS.facts_get hF 86 (by simp)
       have h89 : u 89 = .string ⟨(decZ (-(rndQ x))).toArray⟩ := AS.facts_get hF 89 (by simp)
       clear hF
       simp only [h82, h86, h89] at hK ⊢
       clear h82 h86 h89
       go_simp
       exact hK.out _ _ (Below.refl _ _) (rfl) trivial
      refine AS.sc rfl rfl rfl ?_ ?_
      ·intro k_ u w_ hk hJ hF K hK
       have h82 : u 82 = .bool true := AS.facts_get hF 82 (by simp)
       have h90 : u 90 = .bool true := AS.facts_get hF 90 (by simp)
       clear hF
       simp only [h82, h90] at hK ⊢
       clear h82 h90
       go_simp
       exact hK.out _ _ (Below.refl _ _) (rfl) trivial
      refine AS.sc rfl rfl rfl ?_ ?_
      ·intro k_ u w_ hk hJ hF K hK
       have h91 : u 91 = .bool true := AS.facts_get hF 91 (by simp)
       clear hF
       simp only [h91] at hK ⊢
       clear h91
       go_simp
       exact hK.out _ _ (Below.refl _ _) (rfl) trivial
      exact AS.StepsOk.nil
     ·intro u W59 hJ9 hF
      have h4 : u 4 = .bool true := AS.facts_get hF 4 (by simp [roundsFL15, AS.temps])
      clear hF
      rw [show u 4 = _ from h4]
      clear h4 HTW
      replace b5 := hup b5 hJ9
      replace b6 := hup b6 hJ9
      replace b7 := hup b7 hJ9
      replace b8 := hup b8 hJ9
      replace b10 := hup b10 hJ9
      replace b11 := hup b11 hJ9
      replace b12 := hup b12 hJ9
      replace b13 := hup b13 hJ9
      replace b15 := hup b15 hJ9
      replace b17 := hup b17 hJ9
      replace HX := Lib.hid (HX.out.kept (Keep.ofBelow hJ9))
      replace HY := Lib.hid (HY.out.kept (Keep.ofBelow hJ9))
      replace HA := Lib.hid (HA.out.kept (Keep.ofBelow hJ9))
      replace HN := Lib.hid (HN.out.kept (Keep.ofBelow hJ9))
      replace HM2 := Lib.hid (HM2.out.kept (Keep.ofBelow hJ9))
      replace HO := Lib.hid (HO.out.kept (Keep.ofBelow hJ9))
      replace HW := Lib.hid (HW.out.kept (Keep.ofBelow hJ9))
      replace HH := Lib.hid (HH.out.kept (Keep.ofBelow hJ9))
      replace HD := Lib.hid (HD.out.kept (Keep.ofBelow hJ9))
      have nbel := below_then HB58.out hJ9 HB58.out.size
      have HB60 := Lib.hid nbel
      clear nbel HB58 hJ9 x5_0 x5_1 x5_2 x5_3 x6_0 x6_1 x6_2 x6_3 x7_0 x7_1 x7_2 x7_3 x8_0 x8_1 x8_2 x8_3 x10_0 x10_1 x11_0 x11_1 x12_0 x12_1 x13_0 x13_1 x13_2 x13_3 x15_0 x15_1 x15_2 x15_3 x17_0 x17_1 x17_2 x17_3 szb s5 s6 s7 s8 s10 s11 s12 s13 s15 s17
      obtain ⟨x5_0, x5_1, x5_2, x5_3, s5⟩ := b5.out.d4
      obtain ⟨x6_0, x6_1, x6_2, x6_3, s6⟩ := b6.out.d4
      obtain ⟨x7_0, x7_1, x7_2, x7_3, s7⟩ := b7.out.d4
      obtain ⟨x8_0, x8_1, x8_2, x8_3, s8⟩ := b8.out.d4
      obtain ⟨x10_0, x10_1, s10⟩ := b10.out.d2
      obtain ⟨x11_0, x11_1, s11⟩ := b11.out.d2
      obtain ⟨x12_0, x12_1, s12⟩ := b12.out.d2
      obtain ⟨x13_0, x13_1, x13_2, x13_3, s13⟩ := b13.out.d4
      obtain ⟨x15_0, x15_1, x15_2, x15_3, s15⟩ := b15.out.d4
      obtain ⟨x17_0, x17_1, x17_2, x17_3, s17⟩ := b17.out.d4
      have szb := HB60.out.size
      go_wp2_with fail
      have hkeep := (Keep.refl W59)
      have hbel := HB60.out
      refine bodyPost_ret (v := .bool true) (by simp [results, Tryz.results9, go_sem]) rfl ⟨rfl, hbel⟩
end Go.Proofs.YtgihmikeapbpkaaGreatDoor
