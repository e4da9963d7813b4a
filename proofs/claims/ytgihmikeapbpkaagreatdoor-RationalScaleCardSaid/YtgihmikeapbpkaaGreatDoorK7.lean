/- Contracts of the functions that the statements reach, part 7: what was proved of each, callees first. -/
import Derived.Deep.Cut
import Derived.WalkLawsBesides
import Derived.Test.YtgihmikeapbpkaaGreatDoorK6
namespace Go.Proofs.YtgihmikeapbpkaaGreatDoor
open Go.RowKit
open AS (Keep NoInt)
def ratAddFL (x y : Rat) (n : Nat) : List (Nat × AS.Fact) := [(19, AS.Fact.int (x.num) n), (20, AS.Fact.int ((y.den : Int)) n), (21, AS.Fact.int ((x.num) * ((y.den : Int))) (n + n)), (22, AS.Fact.int (y.num) n), (23, AS.Fact.int ((x.den : Int)) n), (24, AS.Fact.int ((y.num) * ((x.den : Int))) (n + n)), (25, AS.Fact.int (((x.num) * ((y.den : Int))) + ((y.num) * ((x.den : Int)))) (((n + n) + (n + n)) + 1)), (26, AS.Fact.int ((x.den : Int)) n), (27, AS.Fact.int ((y.den : Int)) n), (28, AS.Fact.int (((x.den : Int)) * ((y.den : Int))) (n + n)), (29, AS.Fact.pair (x.num * (y.den : Int) + y.num * (x.den : Int)) ((x.den : Int) * (y.den : Int)) (4 * n + 1)), (30, AS.Fact.rat (x + y) (4 * n + 2))]
set_option maxRecDepth 20000 in
set_option maxHeartbeats 3200000 in
theorem ratAdd_fact {x y : Rat} {n : Nat} {v v2 : Value} {w : World} (h : PRat x n v w) (h2 : PRat y n v2 w) (hn3 : 3 ≤ n) (hn : n ≤ 10000) :
  Calls Tryz.prog 20 #[v, v2] w fun e w' => ∃ v, e = .returned v ∧ PRat (x + y) (4 * n + 2) v w' ∧ Below w.heap.size w w' := by
 obtain ⟨k, A, l, c, k', A', l', c', rfl⟩ := h.open
 obtain ⟨r, E, m, d, r', E', m', d', rfl⟩ := h2.open
 have H1 := Lib.hid h
 have H2 := Lib.hid h2
 clear h h2
 go_enter Tryz.func20, Tryz.ntmps20
 go_upto_region 1 with (fail)
 change Code.wp Tryz.prog _ _ _ (((w.alloc (.cells #[.bool k, .slice A l c, .bool k', .slice A' l' c'] 27)).alloc (.cells #[.bool r, .slice E m d, .bool r', .slice E' m' d'] 27)).alloc (.cells #[.bool false, .slice none 0 0, .bool false, .slice none 0 0] 27))
 obtain ⟨nb2, nb3, nb4, na⟩ := new3 w 27 [.bool k, .slice A l c, .bool k', .slice A' l' c'] 27 [.bool r, .slice E m d, .bool r', .slice E' m' d'] 27 [.bool false, .slice none 0 0, .bool false, .slice none 0 0] lf4 lf4 lf4
 have nkeep := Keep.ofBelow na
 have nbel := na
 generalize ((w.alloc (.cells #[.bool k, .slice A l c, .bool k', .slice A' l' c'] 27)).alloc (.cells #[.bool r, .slice E m d, .bool r', .slice E' m' d'] 27)).alloc (.cells #[.bool false, .slice none 0 0, .bool false, .slice none 0 0] 27) = W1 at *
 clear na
 have b2 := Lib.hid nb2
 have b3 := Lib.hid nb3
 have b4 := Lib.hid nb4
 clear nb2 nb3 nb4
 replace H1 := Lib.hid (H1.out.kept nkeep)
 replace H2 := Lib.hid (H2.out.kept nkeep)
 clear nkeep
 have HB2 := Lib.hid nbel
 clear nbel
 obtain ⟨x2_0, x2_1, x2_2, x2_3, s2⟩ := b2.out.d4
 obtain ⟨x3_0, x3_1, x3_2, x3_3, s3⟩ := b3.out.d4
 obtain ⟨x4_0, x4_1, x4_2, x4_3, s4⟩ := b4.out.d4
 have szb := HB2.out.size
 go_wp2_with fail
 refine (terms_fact H1.out hn3).mono ?_
 rintro e W3 ⟨k1, A1, l1, c1, j1, B1, o1, e1, rfl, ha_, hc_, hb⟩
 replace b2 := hup b2 hb
 replace b3 := hup b3 hb
 replace b4 := hup b4 hb
 replace H1 := Lib.hid (H1.out.kept (Keep.ofBelow hb))
 replace H2 := Lib.hid (H2.out.kept (Keep.ofBelow hb))
 have nbel := below_then HB2.out hb HB2.out.size
 have HB4 := Lib.hid nbel
 clear nbel HB2 hb x2_0 x2_1 x2_2 x2_3 x3_0 x3_1 x3_2 x3_3 x4_0 x4_1 x4_2 x4_3 szb s2 s3 s4
 obtain ⟨x2_0, x2_1, x2_2, x2_3, s2⟩ := b2.out.d4
 obtain ⟨x3_0, x3_1, x3_2, x3_3, s3⟩ := b3.out.d4
 obtain ⟨x4_0, x4_1, x4_2, x4_3, s4⟩ := b4.out.d4
 have szb := HB4.out.size
 have HA := Lib.hid ha_
 have HB := Lib.hid hc_
 clear ha_ hc_
 go_upto_region 2 with (fail)
 have q5 := b2.out.lt
 have q6 := b3.out.lt
 have q7 := b4.out.lt
 change Code.wp Tryz.prog _ _ _ ((W3.alloc (.cells #[.bool k1, .slice A1 l1 c1] 25)).alloc (.cells #[.bool j1, .slice B1 o1 e1] 25))
 obtain ⟨nb5, nb6, na⟩ := new2 W3 25 [.bool k1, .slice A1 l1 c1] 25 [.bool j1, .slice B1 o1 e1] lf2 lf2
 have nb2 := b2.out.up na
 have nb3 := b3.out.up na
 have nb4 := b4.out.up na
 have nkeep := Keep.ofBelow na
 have nbel := below_then HB4.out na HB4.out.size
 generalize (W3.alloc (.cells #[.bool k1, .slice A1 l1 c1] 25)).alloc (.cells #[.bool j1, .slice B1 o1 e1] 25) = W8 at *
 clear na x2_0 x2_1 x2_2 x2_3 x3_0 x3_1 x3_2 x3_3 x4_0 x4_1 x4_2 x4_3 szb s2 s3 s4 b2 b3 b4
 have b2 := Lib.hid nb2
 have b3 := Lib.hid nb3
 have b4 := Lib.hid nb4
 have b5 := Lib.hid nb5
 have b6 := Lib.hid nb6
 clear nb2 nb3 nb4 nb5 nb6
 replace H1 := Lib.hid (H1.out.kept nkeep)
 replace H2 := Lib.hid (H2.out.kept nkeep)
 replace HA := Lib.hid (HA.out.kept nkeep)
 replace HB := Lib.hid (HB.out.kept nkeep)
 clear nkeep
 have HB9 := Lib.hid nbel
 clear nbel HB4
 obtain ⟨x2_0, x2_1, x2_2, x2_3, s2⟩ := b2.out.d4
 obtain ⟨x3_0, x3_1, x3_2, x3_3, s3⟩ := b3.out.d4
 obtain ⟨x4_0, x4_1, x4_2, x4_3, s4⟩ := b4.out.d4
 obtain ⟨x5_0, x5_1, s5⟩ := b5.out.d2
 obtain ⟨x6_0, x6_1, s6⟩ := b6.out.d2
 have szb := HB9.out.size
 go_wp2_with fail
 refine (terms_fact H2.out hn3).mono ?_
 rintro e W10 ⟨k2, A2, l2, c2, j2, B2, o2, e2, rfl, ha_, hc_, hb⟩
 replace b2 := hup b2 hb
 replace b3 := hup b3 hb
 replace b4 := hup b4 hb
 replace b5 := hup b5 hb
 replace b6 := hup b6 hb
 replace H1 := Lib.hid (H1.out.kept (Keep.ofBelow hb))
 replace H2 := Lib.hid (H2.out.kept (Keep.ofBelow hb))
 replace HA := Lib.hid (HA.out.kept (Keep.ofBelow hb))
 replace HB := Lib.hid (HB.out.kept (Keep.ofBelow hb))
 have nbel := below_then HB9.out hb HB9.out.size
 have HB11 := Lib.hid nbel
 clear nbel HB9 hb x2_0 x2_1 x2_2 x2_3 x3_0 x3_1 x3_2 x3_3 x4_0 x4_1 x4_2 x4_3 x5_0 x5_1 x6_0 x6_1 szb s2 s3 s4 s5 s6
 obtain ⟨x2_0, x2_1, x2_2, x2_3, s2⟩ := b2.out.d4
 obtain ⟨x3_0, x3_1, x3_2, x3_3, s3⟩ := b3.out.d4
 obtain ⟨x4_0, x4_1, x4_2, x4_3, s4⟩ := b4.out.d4
 obtain ⟨x5_0, x5_1, s5⟩ := b5.out.d2
 obtain ⟨x6_0, x6_1, s6⟩ := b6.out.d2
 have szb := HB11.out.size
 have HC := Lib.hid ha_
 have HD := Lib.hid hc_
 clear ha_ hc_
 go_upto_region 3 with (fail)
 have q12 := b2.out.lt
 have q13 := b3.out.lt
 have q14 := b4.out.lt
 have q15 := b5.out.lt
 have q16 := b6.out.lt
 change Code.wp Tryz.prog _ _ _ ((W10.alloc (.cells #[.bool k2, .slice A2 l2 c2] 25)).alloc (.cells #[.bool j2, .slice B2 o2 e2] 25))
 obtain ⟨nb7, nb8, na⟩ := new2 W10 25 [.bool k2, .slice A2 l2 c2] 25 [.bool j2, .slice B2 o2 e2] lf2 lf2
 have nb2 := b2.out.up na
 have nb3 := b3.out.up na
 have nb4 := b4.out.up na
 have nb5 := b5.out.up na
 have nb6 := b6.out.up na
 have nkeep := Keep.ofBelow na
 have nbel := below_then HB11.out na HB11.out.size
 generalize (W10.alloc (.cells #[.bool k2, .slice A2 l2 c2] 25)).alloc (.cells #[.bool j2, .slice B2 o2 e2] 25) = W17 at *
 clear na x2_0 x2_1 x2_2 x2_3 x3_0 x3_1 x3_2 x3_3 x4_0 x4_1 x4_2 x4_3 x5_0 x5_1 x6_0 x6_1 szb s2 s3 s4 s5 s6 b2 b3 b4 b5 b6
 have b2 := Lib.hid nb2
 have b3 := Lib.hid nb3
 have b4 := Lib.hid nb4
 have b5 := Lib.hid nb5
 have b6 := Lib.hid nb6
 have b7 := Lib.hid nb7
 have b8 := Lib.hid nb8
 clear nb2 nb3 nb4 nb5 nb6 nb7 nb8
 replace H1 := Lib.hid (H1.out.kept nkeep)
 replace H2 := Lib.hid (H2.out.kept nkeep)
 replace HA := Lib.hid (HA.out.kept nkeep)
 replace HB := Lib.hid (HB.out.kept nkeep)
 replace HC := Lib.hid (HC.out.kept nkeep)
 replace HD := Lib.hid (HD.out.kept nkeep)
 clear nkeep
 have HB18 := Lib.hid nbel
 clear nbel HB11
 obtain ⟨x2_0, x2_1, x2_2, x2_3, s2⟩ := b2.out.d4
 obtain ⟨x3_0, x3_1, x3_2, x3_3, s3⟩ := b3.out.d4
 obtain ⟨x4_0, x4_1, x4_2, x4_3, s4⟩ := b4.out.d4
 obtain ⟨x5_0, x5_1, s5⟩ := b5.out.d2
 obtain ⟨x6_0, x6_1, s6⟩ := b6.out.d2
 obtain ⟨x7_0, x7_1, s7⟩ := b7.out.d2
 obtain ⟨x8_0, x8_1, s8⟩ := b8.out.d2
 have szb := HB18.out.size
 refine AS.region_facts (ratAddFL x y n) (JRes w W17 27 (w.heap.size + 1 + 1)) [[], [], [19, 20], [], [], [22, 23], [21, 24], [], [], [26, 27], [25, 28], [29], [30]] [12] [[], [30]] [0, 0, 1, 0, 0, 1, 1, 0, 0, 1, 1, 1, 1] [] (fun u => by simp only [ratAddFL, AS.temps, List.map_cons, List.map_nil, fillL, List.setIfInBounds_toArray, List.set_cons_zero, List.set_cons_succ]; rfl) (by kernel_rfl) (by kernel_rfl) (JRes.st w W17 27 (w.heap.size + 1 + 1)) (below_drew (Below.refl _ _)) ?_ ?_
 ·refine AS.sc rfl rfl rfl ?_ ?_
  ·intro k_ u w_ hk hJ hF K hK
   clear hF
   obtain rfl : k_ = 0 := Nat.le_zero.1 hk
   have hJ0 : Below W17.heap.size W17 w_ := hJ
   obtain ⟨y0, y1⟩ := ((b5.out).up hJ0).c2
   go_simp
   exact hK.out _ _ (Below.refl _ _) ((HA.out).kept (Keep.ofBelow hJ0)) trivial
  refine AS.sc rfl rfl rfl ?_ ?_
  ·intro k_ u w_ hk hJ hF K hK
   clear hF
   obtain rfl : k_ = 0 := Nat.le_zero.1 hk
   have hJ0 : Below W17.heap.size W17 w_ := hJ
   obtain ⟨y0, y1⟩ := ((b8.out).up hJ0).c2
   go_simp
   exact hK.out _ _ (Below.refl _ _) ((HD.out).kept (Keep.ofBelow hJ0)) trivial
  refine AS.sc rfl rfl rfl ?_ ?_
  ·intro k_ u w_ hk hJ hF K hK
   have h19 : PInt (x.num) n (u 19) w_ := AS.facts_get hF 19 (by simp)
   have h20 : PInt ((y.den : Int)) n (u 20) w_ := AS.facts_get hF 20 (by simp)
   clear hF
   go_simp
   refine (mul_fact h19 h20 (by omega) (by omega)).mono ?_
   rintro e w' ⟨v, rfl, hv, hb⟩
   exact hK.out _ _ hb (hv) trivial
  refine AS.sc rfl rfl rfl ?_ ?_
  ·intro k_ u w_ hk hJ hF K hK
   clear hF
   obtain rfl : k_ = 0 := Nat.le_zero.1 hk
   have hJ0 : Below W17.heap.size W17 w_ := hJ
   obtain ⟨y0, y1⟩ := ((b7.out).up hJ0).c2
   go_simp
   exact hK.out _ _ (Below.refl _ _) ((HC.out).kept (Keep.ofBelow hJ0)) trivial
  refine AS.sc rfl rfl rfl ?_ ?_
  ·intro k_ u w_ hk hJ hF K hK
   clear hF
   obtain rfl : k_ = 0 := Nat.le_zero.1 hk
   have hJ0 : Below W17.heap.size W17 w_ := hJ
   obtain ⟨y0, y1⟩ := ((b6.out).up hJ0).c2
   go_simp
   exact hK.out _ _ (Below.refl _ _) ((HB.out).kept (Keep.ofBelow hJ0)) trivial
  refine AS.sc rfl rfl rfl ?_ ?_
  ·intro k_ u w_ hk hJ hF K hK
   have h22 : PInt (y.num) n (u 22) w_ := AS.facts_get hF 22 (by simp)
   have h23 : PInt ((x.den : Int)) n (u 23) w_ := AS.facts_get hF 23 (by simp)
   clear hF
   go_simp
   refine (mul_fact h22 h23 (by omega) (by omega)).mono ?_
   rintro e w' ⟨v, rfl, hv, hb⟩
   exact hK.out _ _ hb (hv) trivial
  refine AS.sc rfl rfl rfl ?_ ?_
  ·intro k_ u w_ hk hJ hF K hK
   have h21 : PInt ((x.num) * ((y.den : Int))) (n + n) (u 21) w_ := AS.facts_get hF 21 (by simp)
   have h24 : PInt ((y.num) * ((x.den : Int))) (n + n) (u 24) w_ := AS.facts_get hF 24 (by simp)
   clear hF
   go_simp
   refine (add_fact h21 h24 (by omega) (by omega)).mono ?_
   rintro e w' ⟨v, rfl, hv, hb⟩
   exact hK.out _ _ hb (hv) trivial
  refine AS.sc rfl rfl rfl ?_ ?_
  ·intro k_ u w_ hk hJ hF K hK
   clear hF
   obtain rfl : k_ = 0 := Nat.le_zero.1 hk
   have hJ0 : Below W17.heap.size W17 w_ := hJ
   obtain ⟨y0, y1⟩ := ((b6.out).up hJ0).c2
   go_simp
   exact hK.out _ _ (Below.refl _ _) ((HB.out).kept (Keep.ofBelow hJ0)) trivial
  refine AS.sc rfl rfl rfl ?_ ?_
  ·intro k_ u w_ hk hJ hF K hK
   clear hF
   obtain rfl : k_ = 0 := Nat.le_zero.1 hk
   have hJ0 : Below W17.heap.size W17 w_ := hJ
   obtain ⟨y0, y1⟩ := ((b8.out).up hJ0).c2
   go_simp
   exact hK.out _ _ (Below.refl _ _) ((HD.out).kept (Keep.ofBelow hJ0)) trivial
  refine AS.sc rfl rfl rfl ?_ ?_
  ·intro k_ u w_ hk hJ hF K hK
   have h26 : PInt ((x.den : Int)) n (u 26) w_ := AS.facts_get hF 26 (by simp)
   have h27 : PInt ((y.den : Int)) n (u 27) w_ := AS.facts_get hF 27 (by simp)
   clear hF
   go_simp
   refine (mul_fact h26 h27 (by omega) (by omega)).mono ?_
   rintro e w' ⟨v, rfl, hv, hb⟩
   exact hK.out _ _ hb (hv) trivial
  refine AS.sc rfl rfl rfl ?_ ?_
  ·intro k_ u w_ hk hJ hF K hK
   have h25 : PInt (((x.num) * ((y.den : Int))) + ((y.num) * ((x.den : Int)))) (((n + n) + (n + n)) + 1) (u 25) w_ := AS.facts_get hF 25 (by simp)
   have h28 : PInt (((x.den : Int)) * ((y.den : Int))) (n + n) (u 28) w_ := AS.facts_get hF 28 (by simp)
   clear hF
   obtain ⟨ka, Aa, la, ca, ea⟩ := h25.open
   obtain ⟨kb, Ab, lb, cb, eb⟩ := h28.open
   rw [ea] at h25
   rw [eb] at h28
   simp only [ea, eb] at hK ⊢
   go_simp
   exact hK.out _ _ (Below.refl _ _) (⟨ka, Aa, la, ca, kb, Ab, lb, cb, rfl, h25.more (by omega), h28.more (by omega)⟩) trivial
  refine AS.sc rfl rfl rfl ?_ ?_
  ·intro k_ u w_ hk hJ hF K hK
   have h29 : Pair (x.num * (y.den : Int) + y.num * (x.den : Int)) ((x.den : Int) * (y.den : Int)) (4 * n + 1) (u 29) w_ := AS.facts_get hF 29 (by simp)
   clear hF
   go_simp
   refine (red_pair h29 (by omega) (mul_ne (den_ne x) (den_ne y))).mono ?_
   rintro e w' ⟨v, rfl, hv, hb⟩
   exact hK.out _ _ hb (by rw [add_terms] at hv; exact hv) trivial
  refine AS.ss rfl rfl ?_ ?_
  ·intro u w_ hJ hAp hF K hK
   have h30 : PRat (x + y) (4 * n + 2) (u 30) w_ := AS.facts_get hF 30 (by simp)
   clear hF
   obtain ⟨k1, A1, l1, c1, k2, A2, l2, c2, e_⟩ := h30.open
   have hJ0 : Below W17.heap.size W17 w_ := hJ
   have bx := (b4.out).up hJ0
   have hbel := below_then HB18.out hJ0 HB18.out.size
   have y0 := bx.cell 0
   have z0 := bx.frozen 0
   have y1 := bx.cell 1
   have z1 := bx.frozen 1
   have y2 := bx.cell 2
   have z2 := bx.frozen 2
   have y3 := bx.cell 3
   have z3 := bx.frozen 3
   simp only [List.getElem?_cons_zero, List.getElem?_cons_succ] at y0 y1 y2 y3
   simp only [e_] at hK ⊢
   go_simp
   exact hK.out undef _ ⟨⟨(Below.setCell (p := ⟨w.heap.size + 1 + 1, 3, none⟩) (Below.setCell (p := ⟨w.heap.size + 1 + 1, 2, none⟩) (Below.set2 (g := w.heap.size + 1 + 1) hbel (by first | omega | (simp; done) | (simp; omega)) (.bool k1) (.slice A1 l1 c1)) (by first | omega | (simp; done) | (simp; omega)) (.bool k2)) (by first | omega | (simp; done) | (simp; omega)) (.slice A2 l2 c2)), (by simp only [setCell_size]; first | exact hsz | exact Nat.le_trans HB18.out.size hJ0.size)⟩, [.bool k1, .slice A1 l1 c1, .bool k2, .slice A2 l2 c2], by simp [e_], (Bx.set4 bx (Leaf.bool k1) (Leaf.slice A1 l1 c1) (Leaf.bool k2) (Leaf.slice A2 l2 c2))⟩ (Keep.set4 (Keep.refl w_) bx (Leaf.bool k1) (Leaf.slice A1 l1 c1) (Leaf.bool k2) (Leaf.slice A2 l2 c2))
  exact AS.StepsOk.nil
 ·intro u W19 hJ9 hF
  have h30 : PRat (x + y) (4 * n + 2) (u 30) W19 := AS.facts_get hF 30 (by simp [ratAddFL, AS.temps])
  clear hF
  obtain ⟨⟨hbel, -⟩, vs, hvs, hbx⟩ := hJ9
  obtain ⟨ka, Aa, la, ca, kb, Ab, lb, cb, ea⟩ := h30.open
  rw [ea] at h30
  obtain rfl : vs = [.bool ka, .slice Aa la ca, .bool kb, .slice Ab lb cb] := by
   have e1 := (List.cons.inj hvs).1
   rw [show u 30 = _ from ea] at e1
   have e2 := congrArg Array.toList (Value.agg.inj e1)
   simpa using e2.symm
  have y0 := hbx.cell 0
  have y1 := hbx.cell 1
  have y2 := hbx.cell 2
  have y3 := hbx.cell 3
  simp only [List.getElem?_cons_zero, List.getElem?_cons_succ] at y0 y1 y2 y3
  go_wp2_with fail
  refine bodyPost_ret (v := .agg #[.bool ka, .slice Aa la ca, .bool kb, .slice Ab lb cb]) (by simp [results, Tryz.results20, go_sem, y0, y1, y2, y3]) rfl ⟨_, rfl, h30, hbel⟩
set_option maxHeartbeats 3200000
set_option maxRecDepth 20000
def nearFLN (a b : Int) (n : Nat) (W20 : World) : List (Nat × AS.Fact) := [(18, AS.Fact.int (a) n), (19, AS.Fact.int (2) 3), (20, AS.Fact.int ((a) * (2)) (n + 3)), (21, AS.Fact.int (-b) n), (22, AS.Fact.int (((a) * (2)) + (-b)) (((n + 3) + n) + 1)), (23, AS.Fact.int (b) n), (24, AS.Fact.int (2) 3), (25, AS.Fact.int ((b) * (2)) (n + 3)), (26, AS.Fact.quo (Int.tdiv ((a) * (2) + (-b)) ((b) * (2))) (Int.tmod ((a) * (2) + (-b)) ((b) * (2))) (2 * n + 5)), (17, AS.Fact.quo (Int.tdiv ((a) * (2) + (-b)) ((b) * (2))) (Int.tmod ((a) * (2) + (-b)) ((b) * (2))) (2 * n + 5)), (27, AS.Fact.int (Int.tdiv ((a) * (2) + (-b)) ((b) * (2))) (2 * n + 5)), (28, AS.Fact.int (Int.tmod ((a) * (2) + (-b)) ((b) * (2))) (2 * n + 5)), (29, AS.Fact.is (.int .i64 0)), (7, AS.Fact.isBox 25 W20.heap.size), (8, AS.Fact.isBox 25 W20.heap.size), (9, AS.Fact.is (.int .i64 0))]
theorem near_neg {a b : Int} {n : Nat} {k : Bool} {A : Option Addr} {l c : Nat} {k' : Bool} {A' : Option Addr} {l' c' : Nat} {w : World} (h : PInt a n (.agg #[.bool k, .slice A l c]) w) (h2 : PInt b n (.agg #[.bool k', .slice A' l' c']) w) (hn : n ≤ 90000) (hbp : 0 < b) (hc : cmpI a 0 = -1) (ha : a < 0) :
  Calls Tryz.prog 83 #[.agg #[.bool k, .slice A l c], .agg #[.bool k', .slice A' l' c']] w fun e w' => ∃ v, e = .returned v ∧ PInt (rndI a b) (2 * n + 5) v w' ∧ Below w.heap.size w w' := by
 have HBP := Lib.hid hbp
 have H1 := Lib.hid h
 have H2 := Lib.hid h2
 clear h h2
 go_enter Tryz.func83, Tryz.ntmps83
 go_upto_region 1 with (fail)
 change Code.wp Tryz.prog _ _ _ (((w.alloc (.cells #[.bool k, .slice A l c] 25)).alloc (.cells #[.bool k', .slice A' l' c'] 25)).alloc (.cells #[.bool false, .slice none 0 0] 25))
 obtain ⟨nb2, nb3, nb4, na⟩ := new3 w 25 [.bool k, .slice A l c] 25 [.bool k', .slice A' l' c'] 25 [.bool false, .slice none 0 0] lf2 lf2 lf2
 have nkeep := Keep.ofBelow na
 have nbel := na
 generalize ((w.alloc (.cells #[.bool k, .slice A l c] 25)).alloc (.cells #[.bool k', .slice A' l' c'] 25)).alloc (.cells #[.bool false, .slice none 0 0] 25) = W1 at *
 clear na
 have b2 := Lib.hid nb2
 have b3 := Lib.hid nb3
 have b4 := Lib.hid nb4
 clear nb2 nb3 nb4
 replace H1 := Lib.hid (H1.out.kept nkeep)
 replace H2 := Lib.hid (H2.out.kept nkeep)
 clear nkeep
 have HB2 := Lib.hid nbel
 clear nbel
 obtain ⟨x2_0, x2_1, s2⟩ := b2.out.d2
 obtain ⟨x3_0, x3_1, s3⟩ := b3.out.d2
 obtain ⟨x4_0, x4_1, s4⟩ := b4.out.d2
 have szb := HB2.out.size
 go_upto_region 2 with (fail)
 have q3 := b2.out.lt
 have q4 := b3.out.lt
 have q5 := b4.out.lt
 change Code.wp Tryz.prog _ _ _ (W1.alloc (.cells #[.bool k', .slice A' l' c'] 25))
 obtain ⟨nb5, na⟩ := new1 W1 25 [.bool k', .slice A' l' c'] lf2
 have nb2 := b2.out.up na
 have nb3 := b3.out.up na
 have nb4 := b4.out.up na
 have nkeep := Keep.ofBelow na
 have nbel := below_then HB2.out na HB2.out.size
 generalize W1.alloc (.cells #[.bool k', .slice A' l' c'] 25) = W6 at *
 clear na x2_0 x2_1 x3_0 x3_1 x4_0 x4_1 szb s2 s3 s4 b2 b3 b4
 have b2 := Lib.hid nb2
 have b3 := Lib.hid nb3
 have b4 := Lib.hid nb4
 have b5 := Lib.hid nb5
 clear nb2 nb3 nb4 nb5
 replace H1 := Lib.hid (H1.out.kept nkeep)
 replace H2 := Lib.hid (H2.out.kept nkeep)
 clear nkeep
 have HB7 := Lib.hid nbel
 clear nbel HB2
 obtain ⟨x2_0, x2_1, s2⟩ := b2.out.d2
 obtain ⟨x3_0, x3_1, s3⟩ := b3.out.d2
 obtain ⟨x4_0, x4_1, s4⟩ := b4.out.d2
 obtain ⟨x5_0, x5_1, z5_0, z5_1, s5⟩ := b5.out.e2
 have szb := HB7.out.size
 go_wp2_with fail
 refine (sign_is H1.out hc).mono ?_
 rintro e W8 ⟨rfl, hb⟩
 replace b2 := hup b2 hb
 replace b3 := hup b3 hb
 replace b4 := hup b4 hb
 replace b5 := hup b5 hb
 replace H1 := Lib.hid (H1.out.kept (Keep.ofBelow hb))
 replace H2 := Lib.hid (H2.out.kept (Keep.ofBelow hb))
 have nbel := below_then HB7.out hb HB7.out.size
 have HB9 := Lib.hid nbel
 clear nbel HB7 hb x2_0 x2_1 x3_0 x3_1 x4_0 x4_1 x5_0 x5_1 z5_0 z5_1 szb s2 s3 s4 s5
 obtain ⟨x2_0, x2_1, s2⟩ := b2.out.d2
 obtain ⟨x3_0, x3_1, s3⟩ := b3.out.d2
 obtain ⟨x4_0, x4_1, s4⟩ := b4.out.d2
 obtain ⟨x5_0, x5_1, z5_0, z5_1, s5⟩ := b5.out.e2
 have szb := HB9.out.size
 go_wp2_with fail
 refine (neg_fact H2.out (by omega)).mono ?_
 rintro e W10 ⟨v2, rfl, hv2, hb⟩
 replace b2 := hup b2 hb
 replace b3 := hup b3 hb
 replace b4 := hup b4 hb
 replace b5 := hup b5 hb
 replace H1 := Lib.hid (H1.out.kept (Keep.ofBelow hb))
 replace H2 := Lib.hid (H2.out.kept (Keep.ofBelow hb))
 have nbel := below_then HB9.out hb HB9.out.size
 have HB11 := Lib.hid nbel
 clear nbel HB9 hb x2_0 x2_1 x3_0 x3_1 x4_0 x4_1 x5_0 x5_1 z5_0 z5_1 szb s2 s3 s4 s5
 obtain ⟨x2_0, x2_1, s2⟩ := b2.out.d2
 obtain ⟨x3_0, x3_1, s3⟩ := b3.out.d2
 obtain ⟨x4_0, x4_1, s4⟩ := b4.out.d2
 obtain ⟨x5_0, x5_1, z5_0, z5_1, s5⟩ := b5.out.e2
 have szb := HB11.out.size
 obtain ⟨k2, A2, l2, c2, rfl⟩ := hv2.open
 have HH := Lib.hid hv2
 clear hv2
 go_upto_region 4 with (fail)
 change Code.wp Tryz.prog _ _ _ ((W10.setCell ⟨W1.heap.size, 0, none⟩ (.bool k2)).setCell ⟨W1.heap.size, 1, none⟩ (.slice A2 l2 c2))
 have nb2 : Bx 25 ((W10.setCell ⟨W1.heap.size, 0, none⟩ (.bool k2)).setCell ⟨W1.heap.size, 1, none⟩ (.slice A2 l2 c2)) w.heap.size [.bool k, .slice A l c] := (Bx.far2 (g' := W1.heap.size) b2.out (by omega) (.bool k2) (.slice A2 l2 c2))
 have nb3 : Bx 25 ((W10.setCell ⟨W1.heap.size, 0, none⟩ (.bool k2)).setCell ⟨W1.heap.size, 1, none⟩ (.slice A2 l2 c2)) (w.heap.size + 1) [.bool k', .slice A' l' c'] := (Bx.far2 (g' := W1.heap.size) b3.out (by omega) (.bool k2) (.slice A2 l2 c2))
 have nb4 : Bx 25 ((W10.setCell ⟨W1.heap.size, 0, none⟩ (.bool k2)).setCell ⟨W1.heap.size, 1, none⟩ (.slice A2 l2 c2)) (w.heap.size + 1 + 1) [.bool false, .slice none 0 0] := (Bx.far2 (g' := W1.heap.size) b4.out (by omega) (.bool k2) (.slice A2 l2 c2))
 have nb5 : Bx 25 ((W10.setCell ⟨W1.heap.size, 0, none⟩ (.bool k2)).setCell ⟨W1.heap.size, 1, none⟩ (.slice A2 l2 c2)) W1.heap.size [.bool k2, .slice A2 l2 c2] := (Bx.set2 b5.out (Leaf.bool k2) (Leaf.slice A2 l2 c2))
 have nkeep := (Keep.set2 (Keep.refl W10) b5.out (Leaf.bool k2) (Leaf.slice A2 l2 c2))
 have nbel : Below w.heap.size w ((W10.setCell ⟨W1.heap.size, 0, none⟩ (.bool k2)).setCell ⟨W1.heap.size, 1, none⟩ (.slice A2 l2 c2)) := (Below.set2 (g := W1.heap.size) HB11.out (by first | omega | (simp; done) | (simp; omega)) (.bool k2) (.slice A2 l2 c2))
 generalize (W10.setCell ⟨W1.heap.size, 0, none⟩ (.bool k2)).setCell ⟨W1.heap.size, 1, none⟩ (.slice A2 l2 c2) = W12 at *
 clear x2_0 x2_1 x3_0 x3_1 x4_0 x4_1 x5_0 x5_1 z5_0 z5_1 szb s2 s3 s4 s5 b2 b3 b4 b5
 have b2 := Lib.hid nb2
 have b3 := Lib.hid nb3
 have b4 := Lib.hid nb4
 have b5 := Lib.hid nb5
 clear nb2 nb3 nb4 nb5
 replace H1 := Lib.hid (H1.out.kept nkeep)
 replace H2 := Lib.hid (H2.out.kept nkeep)
 replace HH := Lib.hid (HH.out.kept nkeep)
 clear nkeep
 have HB13 := Lib.hid nbel
 clear nbel HB11
 obtain ⟨x2_0, x2_1, s2⟩ := b2.out.d2
 obtain ⟨x3_0, x3_1, s3⟩ := b3.out.d2
 obtain ⟨x4_0, x4_1, s4⟩ := b4.out.d2
 obtain ⟨x5_0, x5_1, z5_0, z5_1, s5⟩ := b5.out.e2
 have szb := HB13.out.size
 go_wp2_with fail
 refine (of_fact (n := 2) (by decide) (by decide)).mono ?_
 rintro e W14 ⟨v2, rfl, hv2, hb⟩
 replace b2 := hup b2 hb
 replace b3 := hup b3 hb
 replace b4 := hup b4 hb
 replace b5 := hup b5 hb
 replace H1 := Lib.hid (H1.out.kept (Keep.ofBelow hb))
 replace H2 := Lib.hid (H2.out.kept (Keep.ofBelow hb))
 replace HH := Lib.hid (HH.out.kept (Keep.ofBelow hb))
 have nbel := below_then HB13.out hb HB13.out.size
 have HB15 := Lib.hid nbel
 clear nbel HB13 hb x2_0 x2_1 x3_0 x3_1 x4_0 x4_1 x5_0 x5_1 z5_0 z5_1 szb s2 s3 s4 s5
 obtain ⟨x2_0, x2_1, s2⟩ := b2.out.d2
 obtain ⟨x3_0, x3_1, s3⟩ := b3.out.d2
 obtain ⟨x4_0, x4_1, s4⟩ := b4.out.d2
 obtain ⟨x5_0, x5_1, z5_0, z5_1, s5⟩ := b5.out.e2
 have szb := HB15.out.size
 obtain ⟨k3, A3, l3, c3, rfl⟩ := hv2.open
 have HO := Lib.hid hv2
 clear hv2
 go_upto_region 5 with (fail)
 have q16 := b2.out.lt
 have q17 := b3.out.lt
 have q18 := b4.out.lt
 have q19 := b5.out.lt
 change Code.wp Tryz.prog _ _ _ (W14.alloc (.cells #[.bool k3, .slice A3 l3 c3] 25))
 obtain ⟨nb6, na⟩ := new1 W14 25 [.bool k3, .slice A3 l3 c3] lf2
 have nb2 := b2.out.up na
 have nb3 := b3.out.up na
 have nb4 := b4.out.up na
 have nb5 := b5.out.up na
 have nkeep := Keep.ofBelow na
 have nbel := below_then HB15.out na HB15.out.size
 generalize W14.alloc (.cells #[.bool k3, .slice A3 l3 c3] 25) = W20 at *
 clear na x2_0 x2_1 x3_0 x3_1 x4_0 x4_1 x5_0 x5_1 z5_0 z5_1 szb s2 s3 s4 s5 b2 b3 b4 b5
 have b2 := Lib.hid nb2
 have b3 := Lib.hid nb3
 have b4 := Lib.hid nb4
 have b5 := Lib.hid nb5
 have b6 := Lib.hid nb6
 clear nb2 nb3 nb4 nb5 nb6
 replace H1 := Lib.hid (H1.out.kept nkeep)
 replace H2 := Lib.hid (H2.out.kept nkeep)
 replace HH := Lib.hid (HH.out.kept nkeep)
 replace HO := Lib.hid (HO.out.kept nkeep)
 clear nkeep
 have HB21 := Lib.hid nbel
 clear nbel HB15
 obtain ⟨x2_0, x2_1, s2⟩ := b2.out.d2
 obtain ⟨x3_0, x3_1, s3⟩ := b3.out.d2
 obtain ⟨x4_0, x4_1, s4⟩ := b4.out.d2
 obtain ⟨x5_0, x5_1, z5_0, z5_1, s5⟩ := b5.out.e2
 obtain ⟨x6_0, x6_1, s6⟩ := b6.out.d2
 have szb := HB21.out.size
 refine AS.region_facts (nearFLN a b n W20) (JFst W20 25) [[], [], [18, 19], [], [20, 21], [], [], [23, 24], [22, 25], [26], [17], [17], [17], [], [], [27, 7], [28, 8], [29]] [15, 16] [[], [27, 7], [27, 7]] [0, 0, 2, 0, 2, 0, 0, 2, 2, 2, 2, 2, 2, 0, 0, 2, 2, 2] [7, 8] (fun u => by simp only [nearFLN, AS.temps, List.map_cons, List.map_nil, fillL, List.setIfInBounds_toArray, List.set_cons_zero, List.set_cons_succ]; rfl) (by kernel_rfl) (by kernel_rfl) (JFst.st W20 25) (below_drew (Below.refl _ _)) ?_ ?_
 ·refine AS.sc rfl rfl rfl ?_ ?_
  ·intro k_ u w_ hk hJ hF K hK
   clear hF
   obtain rfl : k_ = 0 := Nat.le_zero.1 hk
   have hJ0 : Below W20.heap.size W20 w_ := hJ
   obtain ⟨y0, y1⟩ := ((b2.out).up hJ0).c2
   go_simp
   exact hK.out _ _ (Below.refl _ _) ((H1.out).kept (Keep.ofBelow hJ0)) trivial
  refine AS.sc rfl rfl rfl ?_ ?_
  ·intro k_ u w_ hk hJ hF K hK
   clear hF
   obtain rfl : k_ = 0 := Nat.le_zero.1 hk
   have hJ0 : Below W20.heap.size W20 w_ := hJ
   obtain ⟨y0, y1⟩ := ((b6.out).up hJ0).c2
   go_simp
   exact hK.out _ _ (Below.refl _ _) ((HO.out).kept (Keep.ofBelow hJ0)) trivial
  refine AS.sc rfl rfl rfl ?_ ?_
  ·intro k_ u w_ hk hJ hF K hK
   have h18 : PInt (a) n (u 18) w_ := AS.facts_get hF 18 (by simp)
   have h19 : PInt (2) 3 (u 19) w_ := AS.facts_get hF 19 (by simp)
   clear hF
   go_simp
   refine (mul_fact h18 h19 (by omega) (by omega)).mono ?_
   rintro e w' ⟨v, rfl, hv, hb⟩
   exact hK.out _ _ hb (hv) trivial
  refine AS.sc rfl rfl rfl ?_ ?_
  ·intro k_ u w_ hk hJ hF K hK
   clear hF
   obtain rfl : k_ = 0 := Nat.le_zero.1 hk
   have hJ0 : Below W20.heap.size W20 w_ := hJ
   obtain ⟨y0, y1⟩ := ((b5.out).up hJ0).c2
   go_simp
   exact hK.out _ _ (Below.refl _ _) ((HH.out).kept (Keep.ofBelow hJ0)) trivial
  refine AS.sc rfl rfl rfl ?_ ?_
  ·intro k_ u w_ hk hJ hF K hK
   have h20 : PInt ((a) * (2)) (n + 3) (u 20) w_ := AS.facts_get hF 20 (by simp)
   have h21 : PInt (-b) n (u 21) w_ := AS.facts_get hF 21 (by simp)
   clear hF
   go_simp
   refine (add_fact h20 h21 (by omega) (by omega)).mono ?_
   rintro e w' ⟨v, rfl, hv, hb⟩
   exact hK.out _ _ hb (hv) trivial
  refine AS.sc rfl rfl rfl ?_ ?_
  ·intro k_ u w_ hk hJ hF K hK
   clear hF
   obtain rfl : k_ = 0 := Nat.le_zero.1 hk
   have hJ0 : Below W20.heap.size W20 w_ := hJ
   obtain ⟨y0, y1⟩ := ((b3.out).up hJ0).c2
   go_simp
   exact hK.out _ _ (Below.refl _ _) ((H2.out).kept (Keep.ofBelow hJ0)) trivial
  refine AS.sc rfl rfl rfl ?_ ?_
  ·intro k_ u w_ hk hJ hF K hK
   clear hF
   obtain rfl : k_ = 0 := Nat.le_zero.1 hk
   have hJ0 : Below W20.heap.size W20 w_ := hJ
   obtain ⟨y0, y1⟩ := ((b6.out).up hJ0).c2
   go_simp
   exact hK.out _ _ (Below.refl _ _) ((HO.out).kept (Keep.ofBelow hJ0)) trivial
  refine AS.sc rfl rfl rfl ?_ ?_
  ·intro k_ u w_ hk hJ hF K hK
   have h23 : PInt (b) n (u 23) w_ := AS.facts_get hF 23 (by simp)
   have h24 : PInt (2) 3 (u 24) w_ := AS.facts_get hF 24 (by simp)
   clear hF
   go_simp
   refine (mul_fact h23 h24 (by omega) (by omega)).mono ?_
   rintro e w' ⟨v, rfl, hv, hb⟩
   exact hK.out _ _ hb (hv) trivial
  refine AS.sc rfl rfl rfl ?_ ?_
  ·intro k_ u w_ hk hJ hF K hK
   have h22 : PInt (((a) * (2)) + (-b)) (((n + 3) + n) + 1) (u 22) w_ := AS.facts_get hF 22 (by simp)
   have h25 : PInt ((b) * (2)) (n + 3) (u 25) w_ := AS.facts_get hF 25 (by simp)
   clear hF
   go_simp
   refine (quo_fact h22 h25 (by omega) (by omega) (by omega)).mono ?_
   rintro e w' ⟨k7, A7, l7, c7, k8, A8, l8, c8, rfl, hq, hr, hb⟩
   exact hK.out _ _ hb (⟨_, _, rfl, hq.more (by omega), hr.more (by omega)⟩) trivial
  refine AS.sc rfl rfl rfl ?_ ?_
  ·intro k_ u w_ hk hJ hF K hK
   have h26 : QuoP (Int.tdiv ((a) * (2) + (-b)) ((b) * (2))) (Int.tmod ((a) * (2) + (-b)) ((b) * (2))) (2 * n + 5) (u 26) w_ := AS.facts_get hF 26 (by simp)
   clear hF
   go_simp
   exact hK.out _ _ (Below.refl _ _) (h26) trivial
  refine AS.sc rfl rfl rfl ?_ ?_
  ·intro k_ u w_ hk hJ hF K hK
   have h17 : QuoP (Int.tdiv ((a) * (2) + (-b)) ((b) * (2))) (Int.tmod ((a) * (2) + (-b)) ((b) * (2))) (2 * n + 5) (u 17) w_ := AS.facts_get hF 17 (by simp)
   clear hF
   obtain ⟨qa, qb, e0, hqa, hqb⟩ := h17
   simp only [e0] at hK ⊢
   go_simp
   exact hK.out _ _ (Below.refl _ _) (hqa) trivial
  refine AS.sc rfl rfl rfl ?_ ?_
  ·intro k_ u w_ hk hJ hF K hK
   have h17 : QuoP (Int.tdiv ((a) * (2) + (-b)) ((b) * (2))) (Int.tmod ((a) * (2) + (-b)) ((b) * (2))) (2 * n + 5) (u 17) w_ := AS.facts_get hF 17 (by simp)
   clear hF
   obtain ⟨qa, qb, e0, hqa, hqb⟩ := h17
   simp only [e0] at hK ⊢
   go_simp
   exact hK.out _ _ (Below.refl _ _) (hqb) trivial
  refine AS.sc rfl rfl rfl ?_ ?_
  ·intro k_ u w_ hk hJ hF K hK
   have h17 : QuoP (Int.tdiv ((a) * (2) + (-b)) ((b) * (2))) (Int.tmod ((a) * (2) + (-b)) ((b) * (2))) (2 * n + 5) (u 17) w_ := AS.facts_get hF 17 (by simp)
   clear hF
   obtain ⟨qa, qb, e0, hqa, hqb⟩ := h17
   simp only [e0] at hK ⊢
   go_simp
   exact hK.out _ _ (Below.refl _ _) (rfl) trivial
  refine AS.sc rfl rfl rfl ?_ ?_
  ·intro k_ u w_ hk hJ hF K hK
   clear hF
   obtain rfl : k_ = 0 := Nat.le_zero.1 hk
   have hJ0 : Below W20.heap.size W20 w_ := hJ
   go_simp
   exact hK.out _ _ (below_alloc_new _) (IsBox.new _ hJ0.size) ⟨rfl, by simp⟩
  refine AS.sc rfl rfl rfl ?_ ?_
  ·intro k_ u w_ hk hJ hF K hK
   clear hF
   obtain rfl : k_ = 0 := Nat.le_zero.1 hk
   have hJ0 : Below W20.heap.size W20 w_ := hJ
   go_simp
   exact hK.out _ _ (below_alloc_new _) (IsBox.new _ hJ0.size) ⟨rfl, by simp⟩
  refine AS.ss rfl rfl ?_ ?_
  ·intro u w_ hJ hAp hF K hK
   have h27 : PInt (Int.tdiv ((a) * (2) + (-b)) ((b) * (2))) (2 * n + 5) (u 27) w_ := AS.facts_get hF 27 (by simp)
   have h7 : IsBox 25 W20.heap.size (u 7) w_ := AS.facts_get hF 7 (by simp)
   clear hF
   obtain ⟨g, x_, y_, eg, hgB, bx⟩ := h7
   obtain ⟨k1, A1, l1, c1, e_⟩ := h27.open
   have y0 := bx.cell 0
   have y1 := bx.cell 1
   have z0 := bx.frozen 0
   have z1 := bx.frozen 1
   simp only [List.getElem?_cons_zero, List.getElem?_cons_succ] at y0 y1
   have hbel : Below W20.heap.size W20 w_ := hJ
   simp only [e_, eg] at hK ⊢
   go_simp
   exact hK.out undef _ ⟨(Below.setCell (p := ⟨g, 1, none⟩) (Below.setCell (p := ⟨g, 0, none⟩) hbel hgB (.bool k1)) hgB (.slice A1 l1 c1)), g, [.bool k1, .slice A1 l1 c1], by simp [e_, eg], hgB, (Bx.set2 bx (Leaf.bool k1) (Leaf.slice A1 l1 c1))⟩ (Keep.set2 (Keep.refl w_) bx (Leaf.bool k1) (Leaf.slice A1 l1 c1))
  refine AS.ss rfl rfl ?_ ?_
  ·intro u w_ hJ hAp hF K hK
   have h28 : PInt (Int.tmod ((a) * (2) + (-b)) ((b) * (2))) (2 * n + 5) (u 28) w_ := AS.facts_get hF 28 (by simp)
   have h8 : IsBox 25 W20.heap.size (u 8) w_ := AS.facts_get hF 8 (by simp)
   clear hF
   obtain ⟨g, x_, y_, eg, hgB, bx⟩ := h8
   obtain ⟨k1, A1, l1, c1, e_⟩ := h28.open
   have y0 := bx.cell 0
   have y1 := bx.cell 1
   have z0 := bx.frozen 0
   have z1 := bx.frozen 1
   simp only [List.getElem?_cons_zero, List.getElem?_cons_succ] at y0 y1
   obtain ⟨hbel, g2, vs, hvs, hg2, bx2⟩ := hJ
   have e7 : u 7 = .pointer (some ⟨g2, 0, none⟩) := (List.cons.inj (List.cons.inj hvs).2).1
   have hne : g ≠ g2 := by
    intro h
    refine hAp 7 (by simp) 8 (by simp) (by decide) ?_
    rw [e7, eg, h]
   clear e7
   simp only [e_, eg] at hK ⊢
   go_simp
   exact hK.out undef _ ⟨(Below.setCell (p := ⟨g, 1, none⟩) (Below.setCell (p := ⟨g, 0, none⟩) hbel hgB (.bool k1)) hgB (.slice A1 l1 c1)), g2, vs, hvs, hg2, Bx.far (Bx.far bx2 hne 0 (.bool k1)) hne 1 (.slice A1 l1 c1)⟩ (Keep.set2 (Keep.refl w_) bx (Leaf.bool k1) (Leaf.slice A1 l1 c1))
  refine AS.sc rfl rfl rfl ?_ ?_
  ·intro k_ u w_ hk hJ hF K hK
   have h29 : u 29 = .int .i64 0 := AS.facts_get hF 29 (by simp)
   clear hF
   simp only [h29] at hK ⊢
   clear h29
   go_simp
   exact hK.out _ _ (Below.refl _ _) (rfl) trivial
  exact AS.StepsOk.nil
 ·intro u W22 hJ9 hF
  have h27 : PInt (Int.tdiv ((a) * (2) + (-b)) ((b) * (2))) (2 * n + 5) (u 27) W22 := AS.facts_get hF 27 (by simp [nearFLN, AS.temps])
  clear hF
  obtain ⟨hbel, g, vs, hvs, hgB, bx⟩ := hJ9
  obtain ⟨ka, Aa, la, ca, ea⟩ := h27.open
  rw [ea] at h27
  have e7 : u 7 = .pointer (some ⟨g, 0, none⟩) := (List.cons.inj (List.cons.inj hvs).2).1
  obtain rfl : vs = [.bool ka, .slice Aa la ca] := by
   have e1 := (List.cons.inj hvs).1
   rw [show u 27 = _ from ea] at e1
   have e2 := congrArg Array.toList (Value.agg.inj e1)
   simpa using e2.symm
  clear hvs
  have HQ := Lib.hid h27
  have b7 := Lib.hid bx
  clear h27 bx
  rw [show u 7 = _ from e7]
  clear e7
  replace b2 := hup b2 hbel
  replace b3 := hup b3 hbel
  replace b4 := hup b4 hbel
  replace b5 := hup b5 hbel
  replace b6 := hup b6 hbel
  replace H1 := Lib.hid (H1.out.kept (Keep.ofBelow hbel))
  replace H2 := Lib.hid (H2.out.kept (Keep.ofBelow hbel))
  replace HH := Lib.hid (HH.out.kept (Keep.ofBelow hbel))
  replace HO := Lib.hid (HO.out.kept (Keep.ofBelow hbel))
  have nbel := below_then HB21.out hbel HB21.out.size
  have HB23 := Lib.hid nbel
  clear nbel HB21 hbel x2_0 x2_1 x3_0 x3_1 x4_0 x4_1 x5_0 x5_1 z5_0 z5_1 x6_0 x6_1 szb s2 s3 s4 s5 s6
  obtain ⟨x2_0, x2_1, s2⟩ := b2.out.d2
  obtain ⟨x3_0, x3_1, s3⟩ := b3.out.d2
  obtain ⟨x4_0, x4_1, z4_0, z4_1, s4⟩ := b4.out.e2
  obtain ⟨x5_0, x5_1, z5_0, z5_1, s5⟩ := b5.out.e2
  obtain ⟨x6_0, x6_1, s6⟩ := b6.out.d2
  obtain ⟨x7_0, x7_1, s7⟩ := b7.out.d2
  have szb := HB23.out.size
  go_wp2_with fail
  have hkeep := (Keep.set2 (Keep.refl W22) b4.out (Leaf.bool ka) (Leaf.slice Aa la ca))
  have hbel := (Below.set2 (g := w.heap.size + 1 + 1) HB23.out (by first | omega | (simp; done) | (simp; omega)) (.bool ka) (.slice Aa la ca))
  refine bodyPost_ret (v := .agg #[.bool ka, .slice Aa la ca]) (by simp [results, Tryz.results83, go_sem, x4_0, x4_1]) rfl ⟨_, rfl, by rw [← near_eq a b HBP.out, if_pos (by omega)]; exact HQ.out.kept hkeep, hbel⟩
def nearFLP (a b : Int) (n : Nat) (W16 : World) : List (Nat × AS.Fact) := [(18, AS.Fact.int (a) n), (19, AS.Fact.int (2) 3), (20, AS.Fact.int ((a) * (2)) (n + 3)), (21, AS.Fact.int (b) n), (22, AS.Fact.int (((a) * (2)) + (b)) (((n + 3) + n) + 1)), (23, AS.Fact.int (b) n), (24, AS.Fact.int (2) 3), (25, AS.Fact.int ((b) * (2)) (n + 3)), (26, AS.Fact.quo (Int.tdiv ((a) * (2) + (b)) ((b) * (2))) (Int.tmod ((a) * (2) + (b)) ((b) * (2))) (2 * n + 5)), (17, AS.Fact.quo (Int.tdiv ((a) * (2) + (b)) ((b) * (2))) (Int.tmod ((a) * (2) + (b)) ((b) * (2))) (2 * n + 5)), (27, AS.Fact.int (Int.tdiv ((a) * (2) + (b)) ((b) * (2))) (2 * n + 5)), (28, AS.Fact.int (Int.tmod ((a) * (2) + (b)) ((b) * (2))) (2 * n + 5)), (29, AS.Fact.is (.int .i64 0)), (7, AS.Fact.isBox 25 W16.heap.size), (8, AS.Fact.isBox 25 W16.heap.size), (9, AS.Fact.is (.int .i64 0))]
theorem near_pos {a b : Int} {n : Nat} {k : Bool} {A : Option Addr} {l c : Nat} {k' : Bool} {A' : Option Addr} {l' c' : Nat} {w : World} (h : PInt a n (.agg #[.bool k, .slice A l c]) w) (h2 : PInt b n (.agg #[.bool k', .slice A' l' c']) w) (hn : n ≤ 90000) (hbp : 0 < b) (cc : Int) (hcc : decide (cc < 0) = false) (hc : cmpI a 0 = cc) (ha : 0 ≤ a) :
  Calls Tryz.prog 83 #[.agg #[.bool k, .slice A l c], .agg #[.bool k', .slice A' l' c']] w fun e w' => ∃ v, e = .returned v ∧ PInt (rndI a b) (2 * n + 5) v w' ∧ Below w.heap.size w w' := by
 have HBP := Lib.hid hbp
 have H1 := Lib.hid h
 have H2 := Lib.hid h2
 clear h h2
 go_enter Tryz.func83, Tryz.ntmps83
 go_upto_region 1 with (fail)
 change Code.wp Tryz.prog _ _ _ (((w.alloc (.cells #[.bool k, .slice A l c] 25)).alloc (.cells #[.bool k', .slice A' l' c'] 25)).alloc (.cells #[.bool false, .slice none 0 0] 25))
 obtain ⟨nb2, nb3, nb4, na⟩ := new3 w 25 [.bool k, .slice A l c] 25 [.bool k', .slice A' l' c'] 25 [.bool false, .slice none 0 0] lf2 lf2 lf2
 have nkeep := Keep.ofBelow na
 have nbel := na
 generalize ((w.alloc (.cells #[.bool k, .slice A l c] 25)).alloc (.cells #[.bool k', .slice A' l' c'] 25)).alloc (.cells #[.bool false, .slice none 0 0] 25) = W1 at *
 clear na
 have b2 := Lib.hid nb2
 have b3 := Lib.hid nb3
 have b4 := Lib.hid nb4
 clear nb2 nb3 nb4
 replace H1 := Lib.hid (H1.out.kept nkeep)
 replace H2 := Lib.hid (H2.out.kept nkeep)
 clear nkeep
 have HB2 := Lib.hid nbel
 clear nbel
 obtain ⟨x2_0, x2_1, s2⟩ := b2.out.d2
 obtain ⟨x3_0, x3_1, s3⟩ := b3.out.d2
 obtain ⟨x4_0, x4_1, s4⟩ := b4.out.d2
 have szb := HB2.out.size
 go_upto_region 2 with (fail)
 have q3 := b2.out.lt
 have q4 := b3.out.lt
 have q5 := b4.out.lt
 change Code.wp Tryz.prog _ _ _ (W1.alloc (.cells #[.bool k', .slice A' l' c'] 25))
 obtain ⟨nb5, na⟩ := new1 W1 25 [.bool k', .slice A' l' c'] lf2
 have nb2 := b2.out.up na
 have nb3 := b3.out.up na
 have nb4 := b4.out.up na
 have nkeep := Keep.ofBelow na
 have nbel := below_then HB2.out na HB2.out.size
 generalize W1.alloc (.cells #[.bool k', .slice A' l' c'] 25) = W6 at *
 clear na x2_0 x2_1 x3_0 x3_1 x4_0 x4_1 szb s2 s3 s4 b2 b3 b4
 have b2 := Lib.hid nb2
 have b3 := Lib.hid nb3
 have b4 := Lib.hid nb4
 have b5 := Lib.hid nb5
 clear nb2 nb3 nb4 nb5
 replace H1 := Lib.hid (H1.out.kept nkeep)
 replace H2 := Lib.hid (H2.out.kept nkeep)
 clear nkeep
 have HB7 := Lib.hid nbel
 clear nbel HB2
 obtain ⟨x2_0, x2_1, s2⟩ := b2.out.d2
 obtain ⟨x3_0, x3_1, s3⟩ := b3.out.d2
 obtain ⟨x4_0, x4_1, s4⟩ := b4.out.d2
 obtain ⟨x5_0, x5_1, z5_0, z5_1, s5⟩ := b5.out.e2
 have szb := HB7.out.size
 go_wp2_with fail
 refine (sign_is H1.out hc).mono ?_
 rintro e W8 ⟨rfl, hb⟩
 replace b2 := hup b2 hb
 replace b3 := hup b3 hb
 replace b4 := hup b4 hb
 replace b5 := hup b5 hb
 replace H1 := Lib.hid (H1.out.kept (Keep.ofBelow hb))
 replace H2 := Lib.hid (H2.out.kept (Keep.ofBelow hb))
 have nbel := below_then HB7.out hb HB7.out.size
 have HB9 := Lib.hid nbel
 clear nbel HB7 hb x2_0 x2_1 x3_0 x3_1 x4_0 x4_1 x5_0 x5_1 z5_0 z5_1 szb s2 s3 s4 s5
 obtain ⟨x2_0, x2_1, s2⟩ := b2.out.d2
 obtain ⟨x3_0, x3_1, s3⟩ := b3.out.d2
 obtain ⟨x4_0, x4_1, s4⟩ := b4.out.d2
 obtain ⟨x5_0, x5_1, z5_0, z5_1, s5⟩ := b5.out.e2
 have szb := HB9.out.size
 go_wp2_with fail
 refine (of_fact (n := 2) (by decide) (by decide)).mono ?_
 rintro e W10 ⟨v2, rfl, hv2, hb⟩
 replace b2 := hup b2 hb
 replace b3 := hup b3 hb
 replace b4 := hup b4 hb
 replace b5 := hup b5 hb
 replace H1 := Lib.hid (H1.out.kept (Keep.ofBelow hb))
 replace H2 := Lib.hid (H2.out.kept (Keep.ofBelow hb))
 have nbel := below_then HB9.out hb HB9.out.size
 have HB11 := Lib.hid nbel
 clear nbel HB9 hb x2_0 x2_1 x3_0 x3_1 x4_0 x4_1 x5_0 x5_1 z5_0 z5_1 szb s2 s3 s4 s5
 obtain ⟨x2_0, x2_1, s2⟩ := b2.out.d2
 obtain ⟨x3_0, x3_1, s3⟩ := b3.out.d2
 obtain ⟨x4_0, x4_1, s4⟩ := b4.out.d2
 obtain ⟨x5_0, x5_1, z5_0, z5_1, s5⟩ := b5.out.e2
 have szb := HB11.out.size
 obtain ⟨k3, A3, l3, c3, rfl⟩ := hv2.open
 have HO := Lib.hid hv2
 clear hv2
 go_upto_region 5 with (fail)
 have q12 := b2.out.lt
 have q13 := b3.out.lt
 have q14 := b4.out.lt
 have q15 := b5.out.lt
 change Code.wp Tryz.prog _ _ _ (W10.alloc (.cells #[.bool k3, .slice A3 l3 c3] 25))
 obtain ⟨nb6, na⟩ := new1 W10 25 [.bool k3, .slice A3 l3 c3] lf2
 have nb2 := b2.out.up na
 have nb3 := b3.out.up na
 have nb4 := b4.out.up na
 have nb5 := b5.out.up na
 have nkeep := Keep.ofBelow na
 have nbel := below_then HB11.out na HB11.out.size
 generalize W10.alloc (.cells #[.bool k3, .slice A3 l3 c3] 25) = W16 at *
 clear na x2_0 x2_1 x3_0 x3_1 x4_0 x4_1 x5_0 x5_1 z5_0 z5_1 szb s2 s3 s4 s5 b2 b3 b4 b5
 have b2 := Lib.hid nb2
 have b3 := Lib.hid nb3
 have b4 := Lib.hid nb4
 have b5 := Lib.hid nb5
 have b6 := Lib.hid nb6
 clear nb2 nb3 nb4 nb5 nb6
 replace H1 := Lib.hid (H1.out.kept nkeep)
 replace H2 := Lib.hid (H2.out.kept nkeep)
 replace HO := Lib.hid (HO.out.kept nkeep)
 clear nkeep
 have HB17 := Lib.hid nbel
 clear nbel HB11
 obtain ⟨x2_0, x2_1, s2⟩ := b2.out.d2
 obtain ⟨x3_0, x3_1, s3⟩ := b3.out.d2
 obtain ⟨x4_0, x4_1, s4⟩ := b4.out.d2
 obtain ⟨x5_0, x5_1, z5_0, z5_1, s5⟩ := b5.out.e2
 obtain ⟨x6_0, x6_1, s6⟩ := b6.out.d2
 have szb := HB17.out.size
 refine AS.region_facts (nearFLP a b n W16) (JFst W16 25) [[], [], [18, 19], [], [20, 21], [], [], [23, 24], [22, 25], [26], [17], [17], [17], [], [], [27, 7], [28, 8], [29]] [15, 16] [[], [27, 7], [27, 7]] [0, 0, 2, 0, 2, 0, 0, 2, 2, 2, 2, 2, 2, 0, 0, 2, 2, 2] [7, 8] (fun u => by simp only [nearFLP, AS.temps, List.map_cons, List.map_nil, fillL, List.setIfInBounds_toArray, List.set_cons_zero, List.set_cons_succ]; rfl) (by kernel_rfl) (by kernel_rfl) (JFst.st W16 25) (below_drew (Below.refl _ _)) ?_ ?_
 ·refine AS.sc rfl rfl rfl ?_ ?_
  ·intro k_ u w_ hk hJ hF K hK
   clear hF
   obtain rfl : k_ = 0 := Nat.le_zero.1 hk
   have hJ0 : Below W16.heap.size W16 w_ := hJ
   obtain ⟨y0, y1⟩ := ((b2.out).up hJ0).c2
   go_simp
   exact hK.out _ _ (Below.refl _ _) ((H1.out).kept (Keep.ofBelow hJ0)) trivial
  refine AS.sc rfl rfl rfl ?_ ?_
  ·intro k_ u w_ hk hJ hF K hK
   clear hF
   obtain rfl : k_ = 0 := Nat.le_zero.1 hk
   have hJ0 : Below W16.heap.size W16 w_ := hJ
   obtain ⟨y0, y1⟩ := ((b6.out).up hJ0).c2
   go_simp
   exact hK.out _ _ (Below.refl _ _) ((HO.out).kept (Keep.ofBelow hJ0)) trivial
  refine AS.sc rfl rfl rfl ?_ ?_
  ·intro k_ u w_ hk hJ hF K hK
   have h18 : PInt (a) n (u 18) w_ := AS.facts_get hF 18 (by simp)
   have h19 : PInt (2) 3 (u 19) w_ := AS.facts_get hF 19 (by simp)
   clear hF
   go_simp
   refine (mul_fact h18 h19 (by omega) (by omega)).mono ?_
   rintro e w' ⟨v, rfl, hv, hb⟩
   exact hK.out _ _ hb (hv) trivial
  refine AS.sc rfl rfl rfl ?_ ?_
  ·intro k_ u w_ hk hJ hF K hK
   clear hF
   obtain rfl : k_ = 0 := Nat.le_zero.1 hk
   have hJ0 : Below W16.heap.size W16 w_ := hJ
   obtain ⟨y0, y1⟩ := ((b5.out).up hJ0).c2
   go_simp
   exact hK.out _ _ (Below.refl _ _) ((H2.out).kept (Keep.ofBelow hJ0)) trivial
  refine AS.sc rfl rfl rfl ?_ ?_
  ·intro k_ u w_ hk hJ hF K hK
   have h20 : PInt ((a) * (2)) (n + 3) (u 20) w_ := AS.facts_get hF 20 (by simp)
   have h21 : PInt (b) n (u 21) w_ := AS.facts_get hF 21 (by simp)
   clear hF
   go_simp
   refine (add_fact h20 h21 (by omega) (by omega)).mono ?_
   rintro e w' ⟨v, rfl, hv, hb⟩
   exact hK.out _ _ hb (hv) trivial
  refine AS.sc rfl rfl rfl ?_ ?_
  ·intro k_ u w_ hk hJ hF K hK
   clear hF
   obtain rfl : k_ = 0 := Nat.le_zero.1 hk
   have hJ0 : Below W16.heap.size W16 w_ := hJ
   obtain ⟨y0, y1⟩ := ((b3.out).up hJ0).c2
   go_simp
   exact hK.out _ _ (Below.refl _ _) ((H2.out).kept (Keep.ofBelow hJ0)) trivial
  refine AS.sc rfl rfl rfl ?_ ?_
  ·intro k_ u w_ hk hJ hF K hK
   clear hF
   obtain rfl : k_ = 0 := Nat.le_zero.1 hk
   have hJ0 : Below W16.heap.size W16 w_ := hJ
   obtain ⟨y0, y1⟩ := ((b6.out).up hJ0).c2
   go_simp
   exact hK.out _ _ (Below.refl _ _) ((HO.out).kept (Keep.ofBelow hJ0)) trivial
  refine AS.sc rfl rfl rfl ?_ ?_
  ·intro k_ u w_ hk hJ hF K hK
   have h23 : PInt (b) n (u 23) w_ := AS.facts_get hF 23 (by simp)
   have h24 : PInt (2) 3 (u 24) w_ := AS.facts_get hF 24 (by simp)
   clear hF
   go_simp
   refine (mul_fact h23 h24 (by omega) (by omega)).mono ?_
   rintro e w' ⟨v, rfl, hv, hb⟩
   exact hK.out _ _ hb (hv) trivial
  refine AS.sc rfl rfl rfl ?_ ?_
  ·intro k_ u w_ hk hJ hF K hK
   have h22 : PInt (((a) * (2)) + (b)) (((n + 3) + n) + 1) (u 22) w_ := AS.facts_get hF 22 (by simp)
   have h25 : PInt ((b) * (2)) (n + 3) (u 25) w_ := AS.facts_get hF 25 (by simp)
   clear hF
   go_simp
   refine (quo_fact h22 h25 (by omega) (by omega) (by omega)).mono ?_
   rintro e w' ⟨k7, A7, l7, c7, k8, A8, l8, c8, rfl, hq, hr, hb⟩
   exact hK.out _ _ hb (⟨_, _, rfl, hq.more (by omega), hr.more (by omega)⟩) trivial
  refine AS.sc rfl rfl rfl ?_ ?_
  ·intro k_ u w_ hk hJ hF K hK
   have h26 : QuoP (Int.tdiv ((a) * (2) + (b)) ((b) * (2))) (Int.tmod ((a) * (2) + (b)) ((b) * (2))) (2 * n + 5) (u 26) w_ := AS.facts_get hF 26 (by simp)
   clear hF
   go_simp
   exact hK.out _ _ (Below.refl _ _) (h26) trivial
  refine AS.sc rfl rfl rfl ?_ ?_
  ·intro k_ u w_ hk hJ hF K hK
   have h17 : QuoP (Int.tdiv ((a) * (2) + (b)) ((b) * (2))) (Int.tmod ((a) * (2) + (b)) ((b) * (2))) (2 * n + 5) (u 17) w_ := AS.facts_get hF 17 (by simp)
   clear hF
   obtain ⟨qa, qb, e0, hqa, hqb⟩ := h17
   simp only [e0] at hK ⊢
   go_simp
   exact hK.out _ _ (Below.refl _ _) (hqa) trivial
  refine AS.sc rfl rfl rfl ?_ ?_
  ·intro k_ u w_ hk hJ hF K hK
   have h17 : QuoP (Int.tdiv ((a) * (2) + (b)) ((b) * (2))) (Int.tmod ((a) * (2) + (b)) ((b) * (2))) (2 * n + 5) (u 17) w_ := AS.facts_get hF 17 (by simp)
   clear hF
   obtain ⟨qa, qb, e0, hqa, hqb⟩ := h17
   simp only [e0] at hK ⊢
   go_simp
   exact hK.out _ _ (Below.refl _ _) (hqb) trivial
  refine AS.sc rfl rfl rfl ?_ ?_
  ·intro k_ u w_ hk hJ hF K hK
   have h17 : QuoP (Int.tdiv ((a) * (2) + (b)) ((b) * (2))) (Int.tmod ((a) * (2) + (b)) ((b) * (2))) (2 * n + 5) (u 17) w_ := AS.facts_get hF 17 (by simp)
   clear hF
   obtain ⟨qa, qb, e0, hqa, hqb⟩ := h17
   simp only [e0] at hK ⊢
   go_simp
   exact hK.out _ _ (Below.refl _ _) (rfl) trivial
  refine AS.sc rfl rfl rfl ?_ ?_
  ·intro k_ u w_ hk hJ hF K hK
   clear hF
   obtain rfl : k_ = 0 := Nat.le_zero.1 hk
   have hJ0 : Below W16.heap.size W16 w_ := hJ
   go_simp
   exact hK.out _ _ (below_alloc_new _) (IsBox.new _ hJ0.size) ⟨rfl, by simp⟩
  refine AS.sc rfl rfl rfl ?_ ?_
  ·intro k_ u w_ hk hJ hF K hK
   clear hF
   obtain rfl : k_ = 0 := Nat.le_zero.1 hk
   have hJ0 : Below W16.heap.size W16 w_ := hJ
   go_simp
   exact hK.out _ _ (below_alloc_new _) (IsBox.new _ hJ0.size) ⟨rfl, by simp⟩
  refine AS.ss rfl rfl ?_ ?_
  ·intro u w_ hJ hAp hF K hK
   have h27 : PInt (Int.tdiv ((a) * (2) + (b)) ((b) * (2))) (2 * n + 5) (u 27) w_ := AS.facts_get hF 27 (by simp)
   have h7 : IsBox 25 W16.heap.size (u 7) w_ := AS.facts_get hF 7 (by simp)
   clear hF
   obtain ⟨g, x_, y_, eg, hgB, bx⟩ := h7
   obtain ⟨k1, A1, l1, c1, e_⟩ := h27.open
   have y0 := bx.cell 0
   have y1 := bx.cell 1
   have z0 := bx.frozen 0
   have z1 := bx.frozen 1
   simp only [List.getElem?_cons_zero, List.getElem?_cons_succ] at y0 y1
   have hbel : Below W16.heap.size W16 w_ := hJ
   simp only [e_, eg] at hK ⊢
   go_simp
   exact hK.out undef _ ⟨(Below.setCell (p := ⟨g, 1, none⟩) (Below.setCell (p := ⟨g, 0, none⟩) hbel hgB (.bool k1)) hgB (.slice A1 l1 c1)), g, [.bool k1, .slice A1 l1 c1], by simp [e_, eg], hgB, (Bx.set2 bx (Leaf.bool k1) (Leaf.slice A1 l1 c1))⟩ (Keep.set2 (Keep.refl w_) bx (Leaf.bool k1) (Leaf.slice A1 l1 c1))
  refine AS.ss rfl rfl ?_ ?_
  ·intro u w_ hJ hAp hF K hK
   have h28 : PInt (Int.tmod ((a) * (2) + (b)) ((b) * (2))) (2 * n + 5) (u 28) w_ := AS.facts_get hF 28 (by simp)
   have h8 : IsBox 25 W16.heap.size (u 8) w_ := AS.facts_get hF 8 (by simp)
   clear hF
   obtain ⟨g, x_, y_, eg, hgB, bx⟩ := h8
   obtain ⟨k1, A1, l1, c1, e_⟩ := h28.open
   have y0 := bx.cell 0
   have y1 := bx.cell 1
   have z0 := bx.frozen 0
   have z1 := bx.frozen 1
   simp only [List.getElem?_cons_zero, List.getElem?_cons_succ] at y0 y1
   obtain ⟨hbel, g2, vs, hvs, hg2, bx2⟩ := hJ
   have e7 : u 7 = .pointer (some ⟨g2, 0, none⟩) := (List.cons.inj (List.cons.inj hvs).2).1
   have hne : g ≠ g2 := by
    intro h
    refine hAp 7 (by simp) 8 (by simp) (by decide) ?_
    rw [e7, eg, h]
   clear e7
   simp only [e_, eg] at hK ⊢
   go_simp
   exact hK.out undef _ ⟨(Below.setCell (p := ⟨g, 1, none⟩) (Below.setCell (p := ⟨g, 0, none⟩) hbel hgB (.bool k1)) hgB (.slice A1 l1 c1)), g2, vs, hvs, hg2, Bx.far (Bx.far bx2 hne 0 (.bool k1)) hne 1 (.slice A1 l1 c1)⟩ (Keep.set2 (Keep.refl w_) bx (Leaf.bool k1) (Leaf.slice A1 l1 c1))
  refine AS.sc rfl rfl rfl ?_ ?_
  ·intro k_ u w_ hk hJ hF K hK
   have h29 : u 29 = .int .i64 0 := AS.facts_get hF 29 (by simp)
   clear hF
   simp only [h29] at hK ⊢
   clear h29
   go_simp
   exact hK.out _ _ (Below.refl _ _) (rfl) trivial
  exact AS.StepsOk.nil
 ·intro u W18 hJ9 hF
  have h27 : PInt (Int.tdiv ((a) * (2) + (b)) ((b) * (2))) (2 * n + 5) (u 27) W18 := AS.facts_get hF 27 (by simp [nearFLP, AS.temps])
  clear hF
  obtain ⟨hbel, g, vs, hvs, hgB, bx⟩ := hJ9
  obtain ⟨ka, Aa, la, ca, ea⟩ := h27.open
  rw [ea] at h27
  have e7 : u 7 = .pointer (some ⟨g, 0, none⟩) := (List.cons.inj (List.cons.inj hvs).2).1
  obtain rfl : vs = [.bool ka, .slice Aa la ca] := by
   have e1 := (List.cons.inj hvs).1
   rw [show u 27 = _ from ea] at e1
   have e2 := congrArg Array.toList (Value.agg.inj e1)
   simpa using e2.symm
  clear hvs
  have HQ := Lib.hid h27
  have b7 := Lib.hid bx
  clear h27 bx
  rw [show u 7 = _ from e7]
  clear e7
  replace b2 := hup b2 hbel
  replace b3 := hup b3 hbel
  replace b4 := hup b4 hbel
  replace b5 := hup b5 hbel
  replace b6 := hup b6 hbel
  replace H1 := Lib.hid (H1.out.kept (Keep.ofBelow hbel))
  replace H2 := Lib.hid (H2.out.kept (Keep.ofBelow hbel))
  replace HO := Lib.hid (HO.out.kept (Keep.ofBelow hbel))
  have nbel := below_then HB17.out hbel HB17.out.size
  have HB19 := Lib.hid nbel
  clear nbel HB17 hbel x2_0 x2_1 x3_0 x3_1 x4_0 x4_1 x5_0 x5_1 z5_0 z5_1 x6_0 x6_1 szb s2 s3 s4 s5 s6
  obtain ⟨x2_0, x2_1, s2⟩ := b2.out.d2
  obtain ⟨x3_0, x3_1, s3⟩ := b3.out.d2
  obtain ⟨x4_0, x4_1, z4_0, z4_1, s4⟩ := b4.out.e2
  obtain ⟨x5_0, x5_1, z5_0, z5_1, s5⟩ := b5.out.e2
  obtain ⟨x6_0, x6_1, s6⟩ := b6.out.d2
  obtain ⟨x7_0, x7_1, s7⟩ := b7.out.d2
  have szb := HB19.out.size
  go_wp2_with fail
  have hkeep := (Keep.set2 (Keep.refl W18) b4.out (Leaf.bool ka) (Leaf.slice Aa la ca))
  have hbel := (Below.set2 (g := w.heap.size + 1 + 1) HB19.out (by first | omega | (simp; done) | (simp; omega)) (.bool ka) (.slice Aa la ca))
  refine bodyPost_ret (v := .agg #[.bool ka, .slice Aa la ca]) (by simp [results, Tryz.results83, go_sem, x4_0, x4_1]) rfl ⟨_, rfl, by rw [← near_eq a b HBP.out, if_neg (by omega)]; exact HQ.out.kept hkeep, hbel⟩
theorem near_fact {a b : Int} {n : Nat} {v v2 : Value} {w : World} (h : PInt a n v w) (h2 : PInt b n v2 w) (hn : n ≤ 90000) (hbp : 0 < b) :
  Calls Tryz.prog 83 #[v, v2] w fun e w' => ∃ v, e = .returned v ∧ PInt (rndI a b) (2 * n + 5) v w' ∧ Below w.heap.size w w' := by
 obtain ⟨k, A, l, c, rfl⟩ := h.open
 obtain ⟨k', A', l', c', rfl⟩ := h2.open
 rcases Int.lt_trichotomy a 0 with ha | ha | ha
 ·exact near_neg h h2 hn hbp (by unfold cmpI; rw [if_pos ha]) ha
 ·exact near_pos h h2 hn hbp 0 (by decide) (by subst ha; rfl) (by omega)
 ·exact near_pos h h2 hn hbp 1 (by decide) (by unfold cmpI; rw [if_neg (by omega), if_neg (by omega)]) (by omega)
set_option maxHeartbeats 3200000
set_option maxRecDepth 20000
def amt (n : Int) : Bool := decide (-1000000000000 ≤ n) && decide (n ≤ 1000000000000)
theorem isAmount_fact (n : Int) (w : World) : Calls Tryz.prog 90 #[.int .i64 n] w fun e w' => e = .returned (.bool (amt n)) ∧ Below w.heap.size w w' := by
 unfold amt
 by_cases h1 : (-1000000000000 : Int) ≤ n
 ·by_cases h2 : n ≤ 1000000000000
  ·rw [decide_eq_true h1, decide_eq_true h2]
   go_enter Tryz.func90, Tryz.ntmps90
   go_wp2
   go_ret
   exact ⟨rfl, Below.refl _ _⟩
  ·rw [decide_eq_true h1, decide_eq_false h2]
   have h3 : decide (n ≤ 1000000000000) = false := decide_eq_false h2
   clear h2
   go_enter Tryz.func90, Tryz.ntmps90
   go_wp2
   go_ret
   exact ⟨rfl, Below.refl _ _⟩
 ·rw [decide_eq_false h1]
  have h3 : decide ((-1000000000000 : Int) ≤ n) = false := decide_eq_false h1
  clear h1
  go_enter Tryz.func90, Tryz.ntmps90
  go_wp2
  go_ret
  exact ⟨rfl, Below.refl _ _⟩
theorem isAmount_is {n : Int} {b : Bool} (hn : amt n = b) (w : World) : Calls Tryz.prog 90 #[.int .i64 n] w fun e w' => e = .returned (.bool b) ∧ Below w.heap.size w w' := hn ▸ isAmount_fact n w
theorem small_is {z zz : Int} {bb : Bool} {n : Nat} {a : Value} {w : World} (h1 : PInt z n a w) (hn : n ≤ 100000) (hz : smN z = zz) (hb : smB z = bb) :
  Calls Tryz.prog 91 #[a] w fun e w' => e = .returned (.tuple #[.int .i64 zz, .bool bb]) ∧ Below w.heap.size w w' := by
 subst hz hb
 exact small_fact h1 hn
theorem scale_arg {a : Int} {x : Rat} {n : Nat} {v : Value} {w : World} (h : PRat x n v w) (_hn3 : 3 ≤ n) (_hn : n ≤ 10000) (ham : amt a = false) :
  Calls Tryz.prog 47 #[.int .i64 a, v] w fun e w' => e = .returned (.tuple #[.int .i64 0, .int .i64 1]) ∧ Below w.heap.size w w' := by
 obtain ⟨k, A, l, c, k', A', l', c', rfl⟩ := h.open
 have H1 := Lib.hid h
 have HAM := Lib.hid ham
 clear h ham
 go_enter Tryz.func47, Tryz.ntmps47
 go_upto_region 1 with (fail)
 change Code.wp Tryz.prog _ _ _ (w.alloc (.cells #[.bool k, .slice A l c, .bool k', .slice A' l' c'] 27))
 obtain ⟨nb3, na⟩ := new1 w 27 [.bool k, .slice A l c, .bool k', .slice A' l' c'] lf4
 have nkeep := Keep.ofBelow na
 have nbel := na
 generalize w.alloc (.cells #[.bool k, .slice A l c, .bool k', .slice A' l' c'] 27) = W1 at *
 clear na
 have b3 := Lib.hid nb3
 clear nb3
 replace H1 := Lib.hid (H1.out.kept nkeep)
 clear nkeep
 have HB2 := Lib.hid nbel
 clear nbel
 obtain ⟨x30, x31, x32, x33, s3⟩ := b3.out.d4
 have szb := HB2.out.size
 go_wp2_with fail
 refine (isAmount_is HAM.out _).mono ?_
 rintro e W3 ⟨rfl, hb⟩
 replace b3 := hup b3 hb
 replace H1 := Lib.hid (H1.out.kept (Keep.ofBelow hb))
 have nbel := below_then HB2.out hb HB2.out.size
 have HB4 := Lib.hid nbel
 clear nbel HB2 hb x30 x31 x32 x33 szb s3
 obtain ⟨x30, x31, x32, x33, s3⟩ := b3.out.d4
 have szb := HB4.out.size
 go_wp2_with fail
 have hkeep := (Keep.refl W3)
 have hbel := HB4.out
 refine bodyPost_ret (v := .tuple #[.int .i64 0, .int .i64 1]) (by simp [results, Tryz.results47, go_sem]) rfl ⟨rfl, hbel⟩
def scaleFL (a zz : Int) (bb : Bool) (x : Rat) (n : Nat) : List (Nat × AS.Fact) := [(19, AS.Fact.is (.int .i64 a)), (20, AS.Fact.int (a) 3), (21, AS.Fact.int (x.num) n), (22, AS.Fact.int ((a) * (x.num)) (3 + n)), (23, AS.Fact.int ((x.den : Int)) n), (24, AS.Fact.int (rndI ((a) * (x.num)) (x.den : Int)) (2 * (n + 3) + 5)), (25, AS.Fact.is (.tuple #[.int .i64 zz, .bool bb])), (18, AS.Fact.is (.tuple #[.int .i64 zz, .bool bb])), (26, AS.Fact.is (.int .i64 zz)), (27, AS.Fact.is (.bool bb)), (8, AS.Fact.is (.int .i64 zz)), (9, AS.Fact.is (.bool bb))]
theorem scale_ok {a : Int} {x : Rat} {n : Nat} {v : Value} {w : World} (h : PRat x n v w) (hn3 : 3 ≤ n) (hn : n ≤ 10000) {zz : Int} {bb : Bool} (ham : amt a = true) (har : -9223372036854775808 ≤ a ∧ a ≤ 9223372036854775807) (hz : smN (rndI (a * x.num) (x.den : Int)) = zz ∧ smB (rndI (a * x.num) (x.den : Int)) = bb) (hbb : bb = true) (hza : amt zz = true) :
  Calls Tryz.prog 47 #[.int .i64 a, v] w fun e w' => e = .returned (.tuple #[.int .i64 zz, .int .i64 0]) ∧ Below w.heap.size w w' := by
 have HR := Lib.hid har
 have HZ := Lib.hid hz
 have HBB := Lib.hid hbb
 clear har hz hbb
 have HZA := Lib.hid hza
 clear hza
 obtain ⟨k, A, l, c, k', A', l', c', rfl⟩ := h.open
 have H1 := Lib.hid h
 have HAM := Lib.hid ham
 clear h ham
 go_enter Tryz.func47, Tryz.ntmps47
 go_upto_region 1 with (fail)
 change Code.wp Tryz.prog _ _ _ (w.alloc (.cells #[.bool k, .slice A l c, .bool k', .slice A' l' c'] 27))
 obtain ⟨nb3, na⟩ := new1 w 27 [.bool k, .slice A l c, .bool k', .slice A' l' c'] lf4
 have nkeep := Keep.ofBelow na
 have nbel := na
 generalize w.alloc (.cells #[.bool k, .slice A l c, .bool k', .slice A' l' c'] 27) = W1 at *
 clear na
 have b3 := Lib.hid nb3
 clear nb3
 replace H1 := Lib.hid (H1.out.kept nkeep)
 clear nkeep
 have HB2 := Lib.hid nbel
 clear nbel
 obtain ⟨x30, x31, x32, x33, s3⟩ := b3.out.d4
 have szb := HB2.out.size
 go_wp2_with fail
 refine (isAmount_is HAM.out _).mono ?_
 rintro e W3 ⟨rfl, hb⟩
 replace b3 := hup b3 hb
 replace H1 := Lib.hid (H1.out.kept (Keep.ofBelow hb))
 have nbel := below_then HB2.out hb HB2.out.size
 have HB4 := Lib.hid nbel
 clear nbel HB2 hb x30 x31 x32 x33 szb s3
 obtain ⟨x30, x31, x32, x33, s3⟩ := b3.out.d4
 have szb := HB4.out.size
 go_wp2_with fail
 refine (terms_fact H1.out hn3).mono ?_
 rintro e W5 ⟨k1, A1, l1, c1, j1, B1, o1, e1, rfl, ha_, hc_, hb⟩
 replace b3 := hup b3 hb
 replace H1 := Lib.hid (H1.out.kept (Keep.ofBelow hb))
 have nbel := below_then HB4.out hb HB4.out.size
 have HB6 := Lib.hid nbel
 clear nbel HB4 hb x30 x31 x32 x33 szb s3
 obtain ⟨x30, x31, x32, x33, s3⟩ := b3.out.d4
 have szb := HB6.out.size
 have HA := Lib.hid ha_
 have HB := Lib.hid hc_
 clear ha_ hc_
 go_upto_region 4 with (fail)
 have q7 := b3.out.lt
 change Code.wp Tryz.prog _ _ _ ((W5.alloc (.cells #[.bool k1, .slice A1 l1 c1] 25)).alloc (.cells #[.bool j1, .slice B1 o1 e1] 25))
 obtain ⟨nb6, nb7, na⟩ := new2 W5 25 [.bool k1, .slice A1 l1 c1] 25 [.bool j1, .slice B1 o1 e1] lf2 lf2
 have nb3 := b3.out.up na
 have nkeep := Keep.ofBelow na
 have nbel := below_then HB6.out na HB6.out.size
 generalize (W5.alloc (.cells #[.bool k1, .slice A1 l1 c1] 25)).alloc (.cells #[.bool j1, .slice B1 o1 e1] 25) = W8 at *
 clear na x30 x31 x32 x33 szb s3 b3
 have b3 := Lib.hid nb3
 have b6 := Lib.hid nb6
 have b7 := Lib.hid nb7
 clear nb3 nb6 nb7
 replace H1 := Lib.hid (H1.out.kept nkeep)
 replace HA := Lib.hid (HA.out.kept nkeep)
 replace HB := Lib.hid (HB.out.kept nkeep)
 clear nkeep
 have HB9 := Lib.hid nbel
 clear nbel HB6
 obtain ⟨x30, x31, x32, x33, s3⟩ := b3.out.d4
 obtain ⟨x60, x61, s6⟩ := b6.out.d2
 obtain ⟨x70, x71, s7⟩ := b7.out.d2
 have szb := HB9.out.size
 refine AS.region_facts (scaleFL a zz bb x n) (JNo W8) [[], [19], [], [20, 21], [], [22, 23], [24], [25], [18], [18], [26], [27]] [] [[]] [0, 0, 0, 0, 0, 0, 0, 0, 0, 0, 0, 0] [] (fun u => by simp only [scaleFL, AS.temps, List.map_cons, List.map_nil, fillL, List.setIfInBounds_toArray, List.set_cons_zero, List.set_cons_succ]; rfl) (by kernel_rfl) (by kernel_rfl) (JNo.st W8) (below_drew (Below.refl _ _)) ?_ ?_
 ·refine AS.sc rfl rfl rfl ?_ ?_
  ·intro k_ u w_ hk hJ hF K hK
   clear hF
   go_simp
   exact hK.out _ _ (Below.refl _ _) (rfl) trivial
  refine AS.sc rfl rfl rfl ?_ ?_
  ·intro k_ u w_ hk hJ hF K hK
   have h19 : u 19 = .int .i64 a := AS.facts_get hF 19 (by simp)
   clear hF
   simp only [h19] at hK ⊢
   clear h19
   go_simp
   refine (of_fact (n := a) HR.out.1 HR.out.2).mono ?_
   rintro e w' ⟨v, rfl, hv, hb⟩
   exact hK.out _ _ hb (hv) trivial
  refine AS.sc rfl rfl rfl ?_ ?_
  ·intro k_ u w_ hk hJ hF K hK
   clear hF
   obtain rfl : k_ = 0 := Nat.le_zero.1 hk
   have hJ0 : Below W8.heap.size W8 w_ := hJ
   obtain ⟨y0, y1⟩ := ((b6.out).up hJ0).c2
   go_simp
   exact hK.out _ _ (Below.refl _ _) ((HA.out).kept (Keep.ofBelow hJ0)) trivial
  refine AS.sc rfl rfl rfl ?_ ?_
  ·intro k_ u w_ hk hJ hF K hK
   have h20 : PInt (a) 3 (u 20) w_ := AS.facts_get hF 20 (by simp)
   have h21 : PInt (x.num) n (u 21) w_ := AS.facts_get hF 21 (by simp)
   clear hF
   go_simp
   refine (mul_fact h20 h21 (by omega) (by omega)).mono ?_
   rintro e w' ⟨v, rfl, hv, hb⟩
   exact hK.out _ _ hb (hv) trivial
  refine AS.sc rfl rfl rfl ?_ ?_
  ·intro k_ u w_ hk hJ hF K hK
   clear hF
   obtain rfl : k_ = 0 := Nat.le_zero.1 hk
   have hJ0 : Below W8.heap.size W8 w_ := hJ
   obtain ⟨y0, y1⟩ := ((b7.out).up hJ0).c2
   go_simp
   exact hK.out _ _ (Below.refl _ _) ((HB.out).kept (Keep.ofBelow hJ0)) trivial
  refine AS.sc rfl rfl rfl ?_ ?_
  ·intro k_ u w_ hk hJ hF K hK
   have h22 : PInt ((a) * (x.num)) (3 + n) (u 22) w_ := AS.facts_get hF 22 (by simp)
   have h23 : PInt ((x.den : Int)) n (u 23) w_ := AS.facts_get hF 23 (by simp)
   clear hF
   go_simp
   refine (near_fact (n := n + 3) (h22.more (by omega)) (h23.more (by omega)) (by omega) (Int.natCast_pos.2 x.den_pos)).mono ?_
   rintro e w' ⟨v, rfl, hv, hb⟩
   exact hK.out _ _ hb (hv) trivial
  refine AS.sc rfl rfl rfl ?_ ?_
  ·intro k_ u w_ hk hJ hF K hK
   have h24 : PInt (rndI ((a) * (x.num)) (x.den : Int)) (2 * (n + 3) + 5) (u 24) w_ := AS.facts_get hF 24 (by simp)
   clear hF
   go_simp
   refine (small_is h24 (by omega) HZ.out.1 HZ.out.2).mono ?_
   rintro e w' ⟨rfl, hb⟩
   exact hK.out _ _ hb (rfl) trivial
  refine AS.sc rfl rfl rfl ?_ ?_
  ·intro k_ u w_ hk hJ hF K hK
   have h25 : u 25 = .tuple #[.int .i64 zz, .bool bb] := AS.facts_get hF 25 (by simp)
   clear hF
   simp only [h25] at hK ⊢
   clear h25
   go_simp
   exact hK.out _ _ (Below.refl _ _) (rfl) trivial
  refine AS.sc rfl rfl rfl ?_ ?_
  ·intro k_ u w_ hk hJ hF K hK
   have h18 : u 18 = .tuple #[.int .i64 zz, .bool bb] := AS.facts_get hF 18 (by simp)
   clear hF
   simp only [h18] at hK ⊢
   clear h18
   go_simp
   exact hK.out _ _ (Below.refl _ _) (rfl) trivial
  refine AS.sc rfl rfl rfl ?_ ?_
  ·intro k_ u w_ hk hJ hF K hK
   have h18 : u 18 = .tuple #[.int .i64 zz, .bool bb] := AS.facts_get hF 18 (by simp)
   clear hF
   simp only [h18] at hK ⊢
   clear h18
   go_simp
   exact hK.out _ _ (Below.refl _ _) (rfl) trivial
  refine AS.sc rfl rfl rfl ?_ ?_
  ·intro k_ u w_ hk hJ hF K hK
   have h26 : u 26 = .int .i64 zz := AS.facts_get hF 26 (by simp)
   clear hF
   simp only [h26] at hK ⊢
   clear h26
   go_simp
   exact hK.out _ _ (Below.refl _ _) (rfl) trivial
  refine AS.sc rfl rfl rfl ?_ ?_
  ·intro k_ u w_ hk hJ hF K hK
   have h27 : u 27 = .bool bb := AS.facts_get hF 27 (by simp)
   clear hF
   simp only [h27] at hK ⊢
   clear h27
   go_simp
   exact hK.out _ _ (Below.refl _ _) (rfl) trivial
  exact AS.StepsOk.nil
 ·intro u W10 hJ9 hF
  have h8 : u 8 = .int .i64 zz := AS.facts_get hF 8 (by simp [scaleFL, AS.temps])
  have h9 : u 9 = .bool bb := AS.facts_get hF 9 (by simp [scaleFL, AS.temps])
  clear hF
  rw [show u 8 = _ from h8, show u 9 = _ from h9]
  clear h8 h9
  replace b3 := hup b3 hJ9
  replace b6 := hup b6 hJ9
  replace b7 := hup b7 hJ9
  replace H1 := Lib.hid (H1.out.kept (Keep.ofBelow hJ9))
  replace HA := Lib.hid (HA.out.kept (Keep.ofBelow hJ9))
  replace HB := Lib.hid (HB.out.kept (Keep.ofBelow hJ9))
  have nbel := below_then HB9.out hJ9 HB9.out.size
  have HB11 := Lib.hid nbel
  clear nbel HB9 hJ9 x30 x31 x32 x33 x60 x61 x70 x71 szb s3 s6 s7
  obtain ⟨x30, x31, x32, x33, s3⟩ := b3.out.d4
  obtain ⟨x60, x61, s6⟩ := b6.out.d2
  obtain ⟨x70, x71, s7⟩ := b7.out.d2
  have szb := HB11.out.size
  obtain rfl : bb = true := HBB.out
  go_wp2_with fail
  refine (isAmount_is HZA.out _).mono ?_
  rintro e W12 ⟨rfl, hb⟩
  replace b3 := hup b3 hb
  replace b6 := hup b6 hb
  replace b7 := hup b7 hb
  replace H1 := Lib.hid (H1.out.kept (Keep.ofBelow hb))
  replace HA := Lib.hid (HA.out.kept (Keep.ofBelow hb))
  replace HB := Lib.hid (HB.out.kept (Keep.ofBelow hb))
  have nbel := below_then HB11.out hb HB11.out.size
  have HB13 := Lib.hid nbel
  clear nbel HB11 hb x30 x31 x32 x33 x60 x61 x70 x71 szb s3 s6 s7
  obtain ⟨x30, x31, x32, x33, s3⟩ := b3.out.d4
  obtain ⟨x60, x61, s6⟩ := b6.out.d2
  obtain ⟨x70, x71, s7⟩ := b7.out.d2
  have szb := HB13.out.size
  go_wp2_with fail
  have hkeep := (Keep.refl W12)
  have hbel := HB13.out
  refine bodyPost_ret (v := .tuple #[.int .i64 zz, .int .i64 0]) (by simp [results, Tryz.results47, go_sem]) rfl ⟨rfl, hbel⟩
theorem scale_big {a : Int} {x : Rat} {n : Nat} {v : Value} {w : World} (h : PRat x n v w) (hn3 : 3 ≤ n) (hn : n ≤ 10000) {zz : Int} {bb : Bool} (ham : amt a = true) (har : -9223372036854775808 ≤ a ∧ a ≤ 9223372036854775807) (hz : smN (rndI (a * x.num) (x.den : Int)) = zz ∧ smB (rndI (a * x.num) (x.den : Int)) = bb) (hbb : bb = true) (hza : amt zz = false) :
  Calls Tryz.prog 47 #[.int .i64 a, v] w fun e w' => e = .returned (.tuple #[.int .i64 0, .int .i64 2]) ∧ Below w.heap.size w w' := by
 have HR := Lib.hid har
 have HZ := Lib.hid hz
 have HBB := Lib.hid hbb
 clear har hz hbb
 have HZA := Lib.hid hza
 clear hza
 obtain ⟨k, A, l, c, k', A', l', c', rfl⟩ := h.open
 have H1 := Lib.hid h
 have HAM := Lib.hid ham
 clear h ham
 go_enter Tryz.func47, Tryz.ntmps47
 go_upto_region 1 with (fail)
 change Code.wp Tryz.prog _ _ _ (w.alloc (.cells #[.bool k, .slice A l c, .bool k', .slice A' l' c'] 27))
 obtain ⟨nb3, na⟩ := new1 w 27 [.bool k, .slice A l c, .bool k', .slice A' l' c'] lf4
 have nkeep := Keep.ofBelow na
 have nbel := na
 generalize w.alloc (.cells #[.bool k, .slice A l c, .bool k', .slice A' l' c'] 27) = W1 at *
 clear na
 have b3 := Lib.hid nb3
 clear nb3
 replace H1 := Lib.hid (H1.out.kept nkeep)
 clear nkeep
 have HB2 := Lib.hid nbel
 clear nbel
 obtain ⟨x30, x31, x32, x33, s3⟩ := b3.out.d4
 have szb := HB2.out.size
 go_wp2_with fail
 refine (isAmount_is HAM.out _).mono ?_
 rintro e W3 ⟨rfl, hb⟩
 replace b3 := hup b3 hb
 replace H1 := Lib.hid (H1.out.kept (Keep.ofBelow hb))
 have nbel := below_then HB2.out hb HB2.out.size
 have HB4 := Lib.hid nbel
 clear nbel HB2 hb x30 x31 x32 x33 szb s3
 obtain ⟨x30, x31, x32, x33, s3⟩ := b3.out.d4
 have szb := HB4.out.size
 go_wp2_with fail
 refine (terms_fact H1.out hn3).mono ?_
 rintro e W5 ⟨k1, A1, l1, c1, j1, B1, o1, e1, rfl, ha_, hc_, hb⟩
 replace b3 := hup b3 hb
 replace H1 := Lib.hid (H1.out.kept (Keep.ofBelow hb))
 have nbel := below_then HB4.out hb HB4.out.size
 have HB6 := Lib.hid nbel
 clear nbel HB4 hb x30 x31 x32 x33 szb s3
 obtain ⟨x30, x31, x32, x33, s3⟩ := b3.out.d4
 have szb := HB6.out.size
 have HA := Lib.hid ha_
 have HB := Lib.hid hc_
 clear ha_ hc_
 go_upto_region 4 with (fail)
 have q7 := b3.out.lt
 change Code.wp Tryz.prog _ _ _ ((W5.alloc (.cells #[.bool k1, .slice A1 l1 c1] 25)).alloc (.cells #[.bool j1, .slice B1 o1 e1] 25))
 obtain ⟨nb6, nb7, na⟩ := new2 W5 25 [.bool k1, .slice A1 l1 c1] 25 [.bool j1, .slice B1 o1 e1] lf2 lf2
 have nb3 := b3.out.up na
 have nkeep := Keep.ofBelow na
 have nbel := below_then HB6.out na HB6.out.size
 generalize (W5.alloc (.cells #[.bool k1, .slice A1 l1 c1] 25)).alloc (.cells #[.bool j1, .slice B1 o1 e1] 25) = W8 at *
 clear na x30 x31 x32 x33 szb s3 b3
 have b3 := Lib.hid nb3
 have b6 := Lib.hid nb6
 have b7 := Lib.hid nb7
 clear nb3 nb6 nb7
 replace H1 := Lib.hid (H1.out.kept nkeep)
 replace HA := Lib.hid (HA.out.kept nkeep)
 replace HB := Lib.hid (HB.out.kept nkeep)
 clear nkeep
 have HB9 := Lib.hid nbel
 clear nbel HB6
 obtain ⟨x30, x31, x32, x33, s3⟩ := b3.out.d4
 obtain ⟨x60, x61, s6⟩ := b6.out.d2
 obtain ⟨x70, x71, s7⟩ := b7.out.d2
 have szb := HB9.out.size
 refine AS.region_facts (scaleFL a zz bb x n) (JNo W8) [[], [19], [], [20, 21], [], [22, 23], [24], [25], [18], [18], [26], [27]] [] [[]] [0, 0, 0, 0, 0, 0, 0, 0, 0, 0, 0, 0] [] (fun u => by simp only [scaleFL, AS.temps, List.map_cons, List.map_nil, fillL, List.setIfInBounds_toArray, List.set_cons_zero, List.set_cons_succ]; rfl) (by kernel_rfl) (by kernel_rfl) (JNo.st W8) (below_drew (Below.refl _ _)) ?_ ?_
 ·refine AS.sc rfl rfl rfl ?_ ?_
  ·intro k_ u w_ hk hJ hF K hK
   clear hF
   go_simp
   exact hK.out _ _ (Below.refl _ _) (rfl) trivial
  refine AS.sc rfl rfl rfl ?_ ?_
  ·intro k_ u w_ hk hJ hF K hK
   have h19 : u 19 = .int .i64 a := AS.facts_get hF 19 (by simp)
   clear hF
   simp only [h19] at hK ⊢
   clear h19
   go_simp
   refine (of_fact (n := a) HR.out.1 HR.out.2).mono ?_
   rintro e w' ⟨v, rfl, hv, hb⟩
   exact hK.out _ _ hb (hv) trivial
  refine AS.sc rfl rfl rfl ?_ ?_
  ·intro k_ u w_ hk hJ hF K hK
   clear hF
   obtain rfl : k_ = 0 := Nat.le_zero.1 hk
   have hJ0 : Below W8.heap.size W8 w_ := hJ
   obtain ⟨y0, y1⟩ := ((b6.out).up hJ0).c2
   go_simp
   exact hK.out _ _ (Below.refl _ _) ((HA.out).kept (Keep.ofBelow hJ0)) trivial
  refine AS.sc rfl rfl rfl ?_ ?_
  ·intro k_ u w_ hk hJ hF K hK
   have h20 : PInt (a) 3 (u 20) w_ := AS.facts_get hF 20 (by simp)
   have h21 : PInt (x.num) n (u 21) w_ := AS.facts_get hF 21 (by simp)
   clear hF
   go_simp
   refine (mul_fact h20 h21 (by omega) (by omega)).mono ?_
   rintro e w' ⟨v, rfl, hv, hb⟩
   exact hK.out _ _ hb (hv) trivial
  refine AS.sc rfl rfl rfl ?_ ?_
  ·intro k_ u w_ hk hJ hF K hK
   clear hF
   obtain rfl : k_ = 0 := Nat.le_zero.1 hk
   have hJ0 : Below W8.heap.size W8 w_ := hJ
   obtain ⟨y0, y1⟩ := ((b7.out).up hJ0).c2
   go_simp
   exact hK.out _ _ (Below.refl _ _) ((HB.out).kept (Keep.ofBelow hJ0)) trivial
  refine AS.sc rfl rfl rfl ?_ ?_
  ·intro k_ u w_ hk hJ hF K hK
   have h22 : PInt ((a) * (x.num)) (3 + n) (u 22) w_ := AS.facts_get hF 22 (by simp)
   have h23 : PInt ((x.den : Int)) n (u 23) w_ := AS.facts_get hF 23 (by simp)
   clear hF
   go_simp
   refine (near_fact (n := n + 3) (h22.more (by omega)) (h23.more (by omega)) (by omega) (Int.natCast_pos.2 x.den_pos)).mono ?_
   rintro e w' ⟨v, rfl, hv, hb⟩
   exact hK.out _ _ hb (hv) trivial
  refine AS.sc rfl rfl rfl ?_ ?_
  ·intro k_ u w_ hk hJ hF K hK
   have h24 : PInt (rndI ((a) * (x.num)) (x.den : Int)) (2 * (n + 3) + 5) (u 24) w_ := AS.facts_get hF 24 (by simp)
   clear hF
   go_simp
   refine (small_is h24 (by omega) HZ.out.1 HZ.out.2).mono ?_
   rintro e w' ⟨rfl, hb⟩
   exact hK.out _ _ hb (rfl) trivial
  refine AS.sc rfl rfl rfl ?_ ?_
  ·intro k_ u w_ hk hJ hF K hK
   have h25 : u 25 = .tuple #[.int .i64 zz, .bool bb] := AS.facts_get hF 25 (by simp)
   clear hF
   simp only [h25] at hK ⊢
   clear h25
   go_simp
   exact hK.out _ _ (Below.refl _ _) (rfl) trivial
  refine AS.sc rfl rfl rfl ?_ ?_
  ·intro k_ u w_ hk hJ hF K hK
   have h18 : u 18 = .tuple #[.int .i64 zz, .bool bb] := AS.facts_get hF 18 (by simp)
   clear hF
   simp only [h18] at hK ⊢
   clear h18
   go_simp
   exact hK.out _ _ (Below.refl _ _) (rfl) trivial
  refine AS.sc rfl rfl rfl ?_ ?_
  ·intro k_ u w_ hk hJ hF K hK
   have h18 : u 18 = .tuple #[.int .i64 zz, .bool bb] := AS.facts_get hF 18 (by simp)
   clear hF
   simp only [h18] at hK ⊢
   clear h18
   go_simp
   exact hK.out _ _ (Below.refl _ _) (rfl) trivial
  refine AS.sc rfl rfl rfl ?_ ?_
  ·intro k_ u w_ hk hJ hF K hK
   have h26 : u 26 = .int .i64 zz := AS.facts_get hF 26 (by simp)
   clear hF
   simp only [h26] at hK ⊢
   clear h26
   go_simp
   exact hK.out _ _ (Below.refl _ _) (rfl) trivial
  refine AS.sc rfl rfl rfl ?_ ?_
  ·intro k_ u w_ hk hJ hF K hK
   have h27 : u 27 = .bool bb := AS.facts_get hF 27 (by simp)
   clear hF
   simp only [h27] at hK ⊢
   clear h27
   go_simp
   exact hK.out _ _ (Below.refl _ _) (rfl) trivial
  exact AS.StepsOk.nil
 ·intro u W10 hJ9 hF
  have h8 : u 8 = .int .i64 zz := AS.facts_get hF 8 (by simp [scaleFL, AS.temps])
  have h9 : u 9 = .bool bb := AS.facts_get hF 9 (by simp [scaleFL, AS.temps])
  clear hF
  rw [show u 8 = _ from h8, show u 9 = _ from h9]
  clear h8 h9
  replace b3 := hup b3 hJ9
  replace b6 := hup b6 hJ9
  replace b7 := hup b7 hJ9
  replace H1 := Lib.hid (H1.out.kept (Keep.ofBelow hJ9))
  replace HA := Lib.hid (HA.out.kept (Keep.ofBelow hJ9))
  replace HB := Lib.hid (HB.out.kept (Keep.ofBelow hJ9))
  have nbel := below_then HB9.out hJ9 HB9.out.size
  have HB11 := Lib.hid nbel
  clear nbel HB9 hJ9 x30 x31 x32 x33 x60 x61 x70 x71 szb s3 s6 s7
  obtain ⟨x30, x31, x32, x33, s3⟩ := b3.out.d4
  obtain ⟨x60, x61, s6⟩ := b6.out.d2
  obtain ⟨x70, x71, s7⟩ := b7.out.d2
  have szb := HB11.out.size
  obtain rfl : bb = true := HBB.out
  go_wp2_with fail
  refine (isAmount_is HZA.out _).mono ?_
  rintro e W12 ⟨rfl, hb⟩
  replace b3 := hup b3 hb
  replace b6 := hup b6 hb
  replace b7 := hup b7 hb
  replace H1 := Lib.hid (H1.out.kept (Keep.ofBelow hb))
  replace HA := Lib.hid (HA.out.kept (Keep.ofBelow hb))
  replace HB := Lib.hid (HB.out.kept (Keep.ofBelow hb))
  have nbel := below_then HB11.out hb HB11.out.size
  have HB13 := Lib.hid nbel
  clear nbel HB11 hb x30 x31 x32 x33 x60 x61 x70 x71 szb s3 s6 s7
  obtain ⟨x30, x31, x32, x33, s3⟩ := b3.out.d4
  obtain ⟨x60, x61, s6⟩ := b6.out.d2
  obtain ⟨x70, x71, s7⟩ := b7.out.d2
  have szb := HB13.out.size
  go_wp2_with fail
  have hkeep := (Keep.refl W12)
  have hbel := HB13.out
  refine bodyPost_ret (v := .tuple #[.int .i64 0, .int .i64 2]) (by simp [results, Tryz.results47, go_sem]) rfl ⟨rfl, hbel⟩
theorem scale_not {a : Int} {x : Rat} {n : Nat} {v : Value} {w : World} (h : PRat x n v w) (hn3 : 3 ≤ n) (hn : n ≤ 10000) {zz : Int} {bb : Bool} (ham : amt a = true) (har : -9223372036854775808 ≤ a ∧ a ≤ 9223372036854775807) (hz : smN (rndI (a * x.num) (x.den : Int)) = zz ∧ smB (rndI (a * x.num) (x.den : Int)) = bb) (hbb : bb = false) :
  Calls Tryz.prog 47 #[.int .i64 a, v] w fun e w' => e = .returned (.tuple #[.int .i64 0, .int .i64 2]) ∧ Below w.heap.size w w' := by
 have HR := Lib.hid har
 have HZ := Lib.hid hz
 have HBB := Lib.hid hbb
 clear har hz hbb
 obtain ⟨k, A, l, c, k', A', l', c', rfl⟩ := h.open
 have H1 := Lib.hid h
 have HAM := Lib.hid ham
 clear h ham
 go_enter Tryz.func47, Tryz.ntmps47
 go_upto_region 1 with (fail)
 change Code.wp Tryz.prog _ _ _ (w.alloc (.cells #[.bool k, .slice A l c, .bool k', .slice A' l' c'] 27))
 obtain ⟨nb3, na⟩ := new1 w 27 [.bool k, .slice A l c, .bool k', .slice A' l' c'] lf4
 have nkeep := Keep.ofBelow na
 have nbel := na
 generalize w.alloc (.cells #[.bool k, .slice A l c, .bool k', .slice A' l' c'] 27) = W1 at *
 clear na
 have b3 := Lib.hid nb3
 clear nb3
 replace H1 := Lib.hid (H1.out.kept nkeep)
 clear nkeep
 have HB2 := Lib.hid nbel
 clear nbel
 obtain ⟨x30, x31, x32, x33, s3⟩ := b3.out.d4
 have szb := HB2.out.size
 go_wp2_with fail
 refine (isAmount_is HAM.out _).mono ?_
 rintro e W3 ⟨rfl, hb⟩
 replace b3 := hup b3 hb
 replace H1 := Lib.hid (H1.out.kept (Keep.ofBelow hb))
 have nbel := below_then HB2.out hb HB2.out.size
 have HB4 := Lib.hid nbel
 clear nbel HB2 hb x30 x31 x32 x33 szb s3
 obtain ⟨x30, x31, x32, x33, s3⟩ := b3.out.d4
 have szb := HB4.out.size
 go_wp2_with fail
 refine (terms_fact H1.out hn3).mono ?_
 rintro e W5 ⟨k1, A1, l1, c1, j1, B1, o1, e1, rfl, ha_, hc_, hb⟩
 replace b3 := hup b3 hb
 replace H1 := Lib.hid (H1.out.kept (Keep.ofBelow hb))
 have nbel := below_then HB4.out hb HB4.out.size
 have HB6 := Lib.hid nbel
 clear nbel HB4 hb x30 x31 x32 x33 szb s3
 obtain ⟨x30, x31, x32, x33, s3⟩ := b3.out.d4
 have szb := HB6.out.size
 have HA := Lib.hid ha_
 have HB := Lib.hid hc_
 clear ha_ hc_
 go_upto_region 4 with (fail)
 have q7 := b3.out.lt
 change Code.wp Tryz.prog _ _ _ ((W5.alloc (.cells #[.bool k1, .slice A1 l1 c1] 25)).alloc (.cells #[.bool j1, .slice B1 o1 e1] 25))
 obtain ⟨nb6, nb7, na⟩ := new2 W5 25 [.bool k1, .slice A1 l1 c1] 25 [.bool j1, .slice B1 o1 e1] lf2 lf2
 have nb3 := b3.out.up na
 have nkeep := Keep.ofBelow na
 have nbel := below_then HB6.out na HB6.out.size
 generalize (W5.alloc (.cells #[.bool k1, .slice A1 l1 c1] 25)).alloc (.cells #[.bool j1, .slice B1 o1 e1] 25) = W8 at *
 clear na x30 x31 x32 x33 szb s3 b3
 have b3 := Lib.hid nb3
 have b6 := Lib.hid nb6
 have b7 := Lib.hid nb7
 clear nb3 nb6 nb7
 replace H1 := Lib.hid (H1.out.kept nkeep)
 replace HA := Lib.hid (HA.out.kept nkeep)
 replace HB := Lib.hid (HB.out.kept nkeep)
 clear nkeep
 have HB9 := Lib.hid nbel
 clear nbel HB6
 obtain ⟨x30, x31, x32, x33, s3⟩ := b3.out.d4
 obtain ⟨x60, x61, s6⟩ := b6.out.d2
 obtain ⟨x70, x71, s7⟩ := b7.out.d2
 have szb := HB9.out.size
 refine AS.region_facts (scaleFL a zz bb x n) (JNo W8) [[], [19], [], [20, 21], [], [22, 23], [24], [25], [18], [18], [26], [27]] [] [[]] [0, 0, 0, 0, 0, 0, 0, 0, 0, 0, 0, 0] [] (fun u => by simp only [scaleFL, AS.temps, List.map_cons, List.map_nil, fillL, List.setIfInBounds_toArray, List.set_cons_zero, List.set_cons_succ]; rfl) (by kernel_rfl) (by kernel_rfl) (JNo.st W8) (below_drew (Below.refl _ _)) ?_ ?_
 ·refine AS.sc rfl rfl rfl ?_ ?_
  ·intro k_ u w_ hk hJ hF K hK
   clear hF
   go_simp
   exact hK.out _ _ (Below.refl _ _) (rfl) trivial
  refine AS.sc rfl rfl rfl ?_ ?_
  ·intro k_ u w_ hk hJ hF K hK
   have h19 : u 19 = .int .i64 a := AS.facts_get hF 19 (by simp)
   clear hF
   simp only [h19] at hK ⊢
   clear h19
   go_simp
   refine (of_fact (n := a) HR.out.1 HR.out.2).mono ?_
   rintro e w' ⟨v, rfl, hv, hb⟩
   exact hK.out _ _ hb (hv) trivial
  refine AS.sc rfl rfl rfl ?_ ?_
  ·intro k_ u w_ hk hJ hF K hK
   clear hF
   obtain rfl : k_ = 0 := Nat.le_zero.1 hk
   have hJ0 : Below W8.heap.size W8 w_ := hJ
   obtain ⟨y0, y1⟩ := ((b6.out).up hJ0).c2
   go_simp
   exact hK.out _ _ (Below.refl _ _) ((HA.out).kept (Keep.ofBelow hJ0)) trivial
  refine AS.sc rfl rfl rfl ?_ ?_
  ·intro k_ u w_ hk hJ hF K hK
   have h20 : PInt (a) 3 (u 20) w_ := AS.facts_get hF 20 (by simp)
   have h21 : PInt (x.num) n (u 21) w_ := AS.facts_get hF 21 (by simp)
   clear hF
   go_simp
   refine (mul_fact h20 h21 (by omega) (by omega)).mono ?_
   rintro e w' ⟨v, rfl, hv, hb⟩
   exact hK.out _ _ hb (hv) trivial
  refine AS.sc rfl rfl rfl ?_ ?_
  ·intro k_ u w_ hk hJ hF K hK
   clear hF
   obtain rfl : k_ = 0 := Nat.le_zero.1 hk
   have hJ0 : Below W8.heap.size W8 w_ := hJ
   obtain ⟨y0, y1⟩ := ((b7.out).up hJ0).c2
   go_simp
   exact hK.out _ _ (Below.refl _ _) ((HB.out).kept (Keep.ofBelow hJ0)) trivial
  refine AS.sc rfl rfl rfl ?_ ?_
  ·intro k_ u w_ hk hJ hF K hK
   have h22 : PInt ((a) * (x.num)) (3 + n) (u 22) w_ := AS.facts_get hF 22 (by simp)
   have h23 : PInt ((x.den : Int)) n (u 23) w_ := AS.facts_get hF 23 (by simp)
   clear hF
   go_simp
   refine (near_fact (n := n + 3) (h22.more (by omega)) (h23.more (by omega)) (by omega) (Int.natCast_pos.2 x.den_pos)).mono ?_
   rintro e w' ⟨v, rfl, hv, hb⟩
   exact hK.out _ _ hb (hv) trivial
  refine AS.sc rfl rfl rfl ?_ ?_
  ·intro k_ u w_ hk hJ hF K hK
   have h24 : PInt (rndI ((a) * (x.num)) (x.den : Int)) (2 * (n + 3) + 5) (u 24) w_ := AS.facts_get hF 24 (by simp)
   clear hF
   go_simp
   refine (small_is h24 (by omega) HZ.out.1 HZ.out.2).mono ?_
   rintro e w' ⟨rfl, hb⟩
   exact hK.out _ _ hb (rfl) trivial
  refine AS.sc rfl rfl rfl ?_ ?_
  ·intro k_ u w_ hk hJ hF K hK
   have h25 : u 25 = .tuple #[.int .i64 zz, .bool bb] := AS.facts_get hF 25 (by simp)
   clear hF
   simp only [h25] at hK ⊢
   clear h25
   go_simp
   exact hK.out _ _ (Below.refl _ _) (rfl) trivial
  refine AS.sc rfl rfl rfl ?_ ?_
  ·intro k_ u w_ hk hJ hF K hK
   have h18 : u 18 = .tuple #[.int .i64 zz, .bool bb] := AS.facts_get hF 18 (by simp)
   clear hF
   simp only [h18] at hK ⊢
   clear h18
   go_simp
   exact hK.out _ _ (Below.refl _ _) (rfl) trivial
  refine AS.sc rfl rfl rfl ?_ ?_
  ·intro k_ u w_ hk hJ hF K hK
   have h18 : u 18 = .tuple #[.int .i64 zz, .bool bb] := AS.facts_get hF 18 (by simp)
   clear hF
   simp only [h18] at hK ⊢
   clear h18
   go_simp
   exact hK.out _ _ (Below.refl _ _) (rfl) trivial
  refine AS.sc rfl rfl rfl ?_ ?_
  ·intro k_ u w_ hk hJ hF K hK
   have h26 : u 26 = .int .i64 zz := AS.facts_get hF 26 (by simp)
   clear hF
   simp only [h26] at hK ⊢
   clear h26
   go_simp
   exact hK.out _ _ (Below.refl _ _) (rfl) trivial
  refine AS.sc rfl rfl rfl ?_ ?_
  ·intro k_ u w_ hk hJ hF K hK
   have h27 : u 27 = .bool bb := AS.facts_get hF 27 (by simp)
   clear hF
   simp only [h27] at hK ⊢
   clear h27
   go_simp
   exact hK.out _ _ (Below.refl _ _) (rfl) trivial
  exact AS.StepsOk.nil
 ·intro u W10 hJ9 hF
  have h8 : u 8 = .int .i64 zz := AS.facts_get hF 8 (by simp [scaleFL, AS.temps])
  have h9 : u 9 = .bool bb := AS.facts_get hF 9 (by simp [scaleFL, AS.temps])
  clear hF
  rw [show u 8 = _ from h8, show u 9 = _ from h9]
  clear h8 h9
  replace b3 := hup b3 hJ9
  replace b6 := hup b6 hJ9
  replace b7 := hup b7 hJ9
  replace H1 := Lib.hid (H1.out.kept (Keep.ofBelow hJ9))
  replace HA := Lib.hid (HA.out.kept (Keep.ofBelow hJ9))
  replace HB := Lib.hid (HB.out.kept (Keep.ofBelow hJ9))
  have nbel := below_then HB9.out hJ9 HB9.out.size
  have HB11 := Lib.hid nbel
  clear nbel HB9 hJ9 x30 x31 x32 x33 x60 x61 x70 x71 szb s3 s6 s7
  obtain ⟨x30, x31, x32, x33, s3⟩ := b3.out.d4
  obtain ⟨x60, x61, s6⟩ := b6.out.d2
  obtain ⟨x70, x71, s7⟩ := b7.out.d2
  have szb := HB11.out.size
  obtain rfl : bb = false := HBB.out
  go_wp2_with fail
  have hkeep := (Keep.refl W10)
  have hbel := HB11.out
  refine bodyPost_ret (v := .tuple #[.int .i64 0, .int .i64 2]) (by simp [results, Tryz.results47, go_sem]) rfl ⟨rfl, hbel⟩
def scaleN (a : Int) (x : Rat) : Int := if amt a && amt (rndQ ((a : Rat) * x)) then rndQ ((a : Rat) * x) else 0
def scaleE (a : Int) (x : Rat) : Int := if amt a then (if amt (rndQ ((a : Rat) * x)) then 0 else 2) else 1
theorem scale_rnd (a : Int) (x : Rat) : rndI (a * x.num) (x.den : Int) = rndQ ((a : Rat) * x) := by
 rw [← rndQ_divInt _ _ (Int.natCast_pos.2 x.den_pos)]
 congr 1
 have h := mul_terms (a : Rat) x
 rw [← h]
 simp
theorem amt_range {a : Int} (h : amt a = true) : -1000000000000 ≤ a ∧ a ≤ 1000000000000 := by unfold amt at h; simpa using h
theorem ratScale_fact {a : Int} {x : Rat} {n : Nat} {v : Value} {w : World} (h : PRat x n v w) (hn3 : 3 ≤ n) (hn : n ≤ 10000) :
  Calls Tryz.prog 47 #[.int .i64 a, v] w fun e w' => e = .returned (.tuple #[.int .i64 (scaleN a x), .int .i64 (scaleE a x)]) ∧ Below w.heap.size w w' := by
 cases ham : amt a with
 | false =>
  have e1 : scaleN a x = 0 := by unfold scaleN; rw [ham]; rfl
  have e2 : scaleE a x = 1 := by unfold scaleE; rw [ham]; rfl
  rw [e1, e2]
  exact scale_arg h hn3 hn ham
 | true =>
  have har := amt_range ham
  have hz := scale_rnd a x
  cases hzm : amt (rndQ ((a : Rat) * x)) with
  | true =>
   have hr := amt_range hzm
   have e1 : scaleN a x = rndQ ((a : Rat) * x) := by unfold scaleN; rw [ham, hzm]; rfl
   have e2 : scaleE a x = 0 := by unfold scaleE; rw [ham, hzm]; rfl
   rw [e1, e2]
   have hb : smB (rndQ ((a : Rat) * x)) = true := by unfold smB; simp; omega
   exact scale_ok h hn3 hn ham (by omega) ⟨by rw [hz]; unfold smN; rw [if_pos hb], by rw [hz]; exact hb⟩ rfl hzm
  | false =>
   have e1 : scaleN a x = 0 := by unfold scaleN; rw [ham, hzm]; rfl
   have e2 : scaleE a x = 2 := by unfold scaleE; rw [ham, hzm]; rfl
   rw [e1, e2]
   cases hb : smB (rndQ ((a : Rat) * x)) with
   | true => exact scale_big h hn3 hn ham (by omega) ⟨by rw [hz]; unfold smN; rw [if_pos hb], by rw [hz]; exact hb⟩ rfl hzm
   | false => exact scale_not h hn3 hn ham (by omega) ⟨rfl, by rw [hz]; exact hb⟩ rfl
set_option maxHeartbeats 3200000
set_option maxRecDepth 20000
def ratText (x : Rat) : List UInt8 := if x.den = 1 then decZ x.num else decZ x.num ++ 47 :: decZ (x.den : Int)
def ratTextFL1 (x : Rat) (n : Nat) : List (Nat × AS.Fact) := [(10, AS.Fact.int ((x.den : Int)) n), (11, AS.Fact.int (1) 3), (12, AS.Fact.is (.int .i64 0)), (13, AS.Fact.is (.bool true))]
theorem ratText_int {x : Rat} {n : Nat} {v : Value} {w : World} (h : PRat x n v w) (hn3 : 3 ≤ n) (hn : n ≤ 10000) (ht : Tab w.heap.size w) (hd : x.den = 1) (hcm : cmpI (x.den : Int) 1 = 0) :
  Calls Tryz.prog 17 #[v] w fun e w' => e = .returned (.string ⟨(ratText x).toArray⟩) ∧ Below w.heap.size w w' := by
 obtain ⟨k, A, l, c, k', A', l', c', rfl⟩ := h.open
 have H1 := Lib.hid h
 have HT := Lib.hid ht
 clear h ht
 go_enter Tryz.func17, Tryz.ntmps17
 go_upto_region 1 with (fail)
 change Code.wp Tryz.prog _ _ _ (w.alloc (.cells #[.bool k, .slice A l c, .bool k', .slice A' l' c'] 27))
 obtain ⟨nb1, na⟩ := new1 w 27 [.bool k, .slice A l c, .bool k', .slice A' l' c'] lf4
 have nkeep := Keep.ofBelow na
 have nbel := na
 generalize w.alloc (.cells #[.bool k, .slice A l c, .bool k', .slice A' l' c'] 27) = W1 at *
 clear na
 have b1 := Lib.hid nb1
 clear nb1
 replace H1 := Lib.hid (H1.out.kept nkeep)
 clear nkeep
 have HB2 := Lib.hid nbel
 clear nbel
 obtain ⟨x10, x11, x12, x13, s1⟩ := b1.out.d4
 have szb := HB2.out.size
 go_wp2_with fail
 refine (terms_fact H1.out hn3).mono ?_
 rintro e W3 ⟨k1, A1, l1, c1, j1, B1, o1, e1, rfl, ha_, hc_, hb⟩
 replace b1 := hup b1 hb
 replace H1 := Lib.hid (H1.out.kept (Keep.ofBelow hb))
 have nbel := below_then HB2.out hb HB2.out.size
 have HB4 := Lib.hid nbel
 clear nbel HB2 hb x10 x11 x12 x13 szb s1
 obtain ⟨x10, x11, x12, x13, s1⟩ := b1.out.d4
 have szb := HB4.out.size
 have HA := Lib.hid ha_
 have HB := Lib.hid hc_
 clear ha_ hc_
 go_upto_region 2 with (fail)
 have q5 := b1.out.lt
 change Code.wp Tryz.prog _ _ _ ((W3.alloc (.cells #[.bool k1, .slice A1 l1 c1] 25)).alloc (.cells #[.bool j1, .slice B1 o1 e1] 25))
 obtain ⟨nb3, nb4, na⟩ := new2 W3 25 [.bool k1, .slice A1 l1 c1] 25 [.bool j1, .slice B1 o1 e1] lf2 lf2
 have nb1 := b1.out.up na
 have nkeep := Keep.ofBelow na
 have nbel := below_then HB4.out na HB4.out.size
 generalize (W3.alloc (.cells #[.bool k1, .slice A1 l1 c1] 25)).alloc (.cells #[.bool j1, .slice B1 o1 e1] 25) = W6 at *
 clear na x10 x11 x12 x13 szb s1 b1
 have b1 := Lib.hid nb1
 have b3 := Lib.hid nb3
 have b4 := Lib.hid nb4
 clear nb1 nb3 nb4
 replace H1 := Lib.hid (H1.out.kept nkeep)
 replace HA := Lib.hid (HA.out.kept nkeep)
 replace HB := Lib.hid (HB.out.kept nkeep)
 clear nkeep
 have HB7 := Lib.hid nbel
 clear nbel HB4
 obtain ⟨x10, x11, x12, x13, s1⟩ := b1.out.d4
 obtain ⟨x30, x31, s3⟩ := b3.out.d2
 obtain ⟨x40, x41, s4⟩ := b4.out.d2
 have szb := HB7.out.size
 refine AS.region_facts (ratTextFL1 x n) (JNo W6) [[], [], [10, 11], [12]] [] [[]] [0, 0, 0, 0] [] (fun u => by simp only [ratTextFL1, AS.temps, List.map_cons, List.map_nil, fillL, List.setIfInBounds_toArray, List.set_cons_zero, List.set_cons_succ]; rfl) (by kernel_rfl) (by kernel_rfl) (JNo.st W6) (below_drew (Below.refl _ _)) ?_ ?_
 ·refine AS.sc rfl rfl rfl ?_ ?_
  ·intro k_ u w_ hk hJ hF K hK
   clear hF
   obtain rfl : k_ = 0 := Nat.le_zero.1 hk
   have hJ0 : Below W6.heap.size W6 w_ := hJ
   obtain ⟨y0, y1⟩ := ((b4.out).up hJ0).c2
   go_simp
   exact hK.out _ _ (Below.refl _ _) ((HB.out).kept (Keep.ofBelow hJ0)) trivial
  refine AS.sc rfl rfl rfl ?_ ?_
  ·intro k_ u w_ hk hJ hF K hK
   clear hF
   go_simp
   refine (of_fact (n := 1) (by decide) (by decide)).mono ?_
   rintro e w' ⟨v, rfl, hv, hb⟩
   exact hK.out _ _ hb (hv) trivial
  refine AS.sc rfl rfl rfl ?_ ?_
  ·intro k_ u w_ hk hJ hF K hK
   have h10 : PInt ((x.den : Int)) n (u 10) w_ := AS.facts_get hF 10 (by simp)
   have h11 : PInt (1) 3 (u 11) w_ := AS.facts_get hF 11 (by simp)
   clear hF
   go_simp
   refine (cmp_is h10 h11 (by omega) (by omega) hcm).mono ?_
   rintro e w' ⟨rfl, hb⟩
   exact hK.out _ _ hb (rfl) trivial
  refine AS.sc rfl rfl rfl ?_ ?_
  ·intro k_ u w_ hk hJ hF K hK
   have h12 : u 12 = .int .i64 0 := AS.facts_get hF 12 (by simp)
   clear hF
   simp only [h12] at hK ⊢
   clear h12
   go_simp
   exact hK.out _ _ (Below.refl _ _) (rfl) trivial
  exact AS.StepsOk.nil
 ·intro u W8 hJ9 hF
  have h13 : u 13 = .bool true := AS.facts_get hF 13 (by simp [ratTextFL1, AS.temps])
  clear hF
  replace b1 := hup b1 hJ9
  replace b3 := hup b3 hJ9
  replace b4 := hup b4 hJ9
  replace H1 := Lib.hid (H1.out.kept (Keep.ofBelow hJ9))
  replace HA := Lib.hid (HA.out.kept (Keep.ofBelow hJ9))
  replace HB := Lib.hid (HB.out.kept (Keep.ofBelow hJ9))
  have nbel := below_then HB7.out hJ9 HB7.out.size
  have HB9 := Lib.hid nbel
  clear nbel HB7 hJ9 x10 x11 x12 x13 x30 x31 x40 x41 szb s1 s3 s4
  obtain ⟨x10, x11, x12, x13, s1⟩ := b1.out.d4
  obtain ⟨x30, x31, s3⟩ := b3.out.d2
  obtain ⟨x40, x41, s4⟩ := b4.out.d2
  have szb := HB9.out.size
  rw [show u 13 = _ from h13]
  clear h13
  go_wp2_with fail
  refine (text_fact HA.out (by omega) (tab_up HT.out HB9.out)).mono ?_
  rintro e W10 ⟨rfl, hb⟩
  replace b1 := hup b1 hb
  replace b3 := hup b3 hb
  replace b4 := hup b4 hb
  replace H1 := Lib.hid (H1.out.kept (Keep.ofBelow hb))
  replace HA := Lib.hid (HA.out.kept (Keep.ofBelow hb))
  replace HB := Lib.hid (HB.out.kept (Keep.ofBelow hb))
  have nbel := below_then HB9.out hb HB9.out.size
  have HB11 := Lib.hid nbel
  clear nbel HB9 hb x10 x11 x12 x13 x30 x31 x40 x41 szb s1 s3 s4
  obtain ⟨x10, x11, x12, x13, s1⟩ := b1.out.d4
  obtain ⟨x30, x31, s3⟩ := b3.out.d2
  obtain ⟨x40, x41, s4⟩ := b4.out.d2
  have szb := HB11.out.size
  go_wp2_with fail
  have hkeep := (Keep.refl W10)
  have hbel := HB11.out
  refine bodyPost_ret (v := .string ⟨(decZ x.num).toArray⟩) (by simp [results, Tryz.results17, go_sem]) rfl ⟨by unfold ratText; rw [if_pos hd], hbel⟩
def ratTextFL2 (x : Rat) (n : Nat) : List (Nat × AS.Fact) := [(10, AS.Fact.int ((x.den : Int)) n), (11, AS.Fact.int (1) 3), (12, AS.Fact.is (.int .i64 1)), (13, AS.Fact.is (.bool false))]
def ratTextFL3 (x : Rat) (n : Nat) : List (Nat × AS.Fact) := [(16, AS.Fact.int (x.num) n), (17, AS.Fact.is (.string ⟨(decZ (x.num)).toArray⟩)), (18, AS.Fact.is (.string ⟨(decZ x.num ++ [47]).toArray⟩)), (19, AS.Fact.int ((x.den : Int)) n), (20, AS.Fact.is (.string ⟨(decZ ((x.den : Int))).toArray⟩)), (21, AS.Fact.is (.string ⟨(decZ x.num ++ 47 :: decZ (x.den : Int)).toArray⟩)), (2, AS.Fact.is (.string ⟨(decZ x.num ++ 47 :: decZ (x.den : Int)).toArray⟩))]
theorem ratText_quo {x : Rat} {n : Nat} {v : Value} {w : World} (h : PRat x n v w) (hn3 : 3 ≤ n) (hn : n ≤ 10000) (ht : Tab w.heap.size w) (hd : x.den ≠ 1) (hcm : cmpI (x.den : Int) 1 = 1) :
  Calls Tryz.prog 17 #[v] w fun e w' => e = .returned (.string ⟨(ratText x).toArray⟩) ∧ Below w.heap.size w w' := by
 obtain ⟨k, A, l, c, k', A', l', c', rfl⟩ := h.open
 have H1 := Lib.hid h
 have HT := Lib.hid ht
 clear h ht
 go_enter Tryz.func17, Tryz.ntmps17
 go_upto_region 1 with (fail)
 change Code.wp Tryz.prog _ _ _ (w.alloc (.cells #[.bool k, .slice A l c, .bool k', .slice A' l' c'] 27))
 obtain ⟨nb1, na⟩ := new1 w 27 [.bool k, .slice A l c, .bool k', .slice A' l' c'] lf4
 have nkeep := Keep.ofBelow na
 have nbel := na
 generalize w.alloc (.cells #[.bool k, .slice A l c, .bool k', .slice A' l' c'] 27) = W1 at *
 clear na
 have b1 := Lib.hid nb1
 clear nb1
 replace H1 := Lib.hid (H1.out.kept nkeep)
 clear nkeep
 have HB2 := Lib.hid nbel
 clear nbel
 obtain ⟨x10, x11, x12, x13, s1⟩ := b1.out.d4
 have szb := HB2.out.size
 go_wp2_with fail
 refine (terms_fact H1.out hn3).mono ?_
 rintro e W3 ⟨k1, A1, l1, c1, j1, B1, o1, e1, rfl, ha_, hc_, hb⟩
 replace b1 := hup b1 hb
 replace H1 := Lib.hid (H1.out.kept (Keep.ofBelow hb))
 have nbel := below_then HB2.out hb HB2.out.size
 have HB4 := Lib.hid nbel
 clear nbel HB2 hb x10 x11 x12 x13 szb s1
 obtain ⟨x10, x11, x12, x13, s1⟩ := b1.out.d4
 have szb := HB4.out.size
 have HA := Lib.hid ha_
 have HB := Lib.hid hc_
 clear ha_ hc_
 go_upto_region 2 with (fail)
 have q5 := b1.out.lt
 change Code.wp Tryz.prog _ _ _ ((W3.alloc (.cells #[.bool k1, .slice A1 l1 c1] 25)).alloc (.cells #[.bool j1, .slice B1 o1 e1] 25))
 obtain ⟨nb3, nb4, na⟩ := new2 W3 25 [.bool k1, .slice A1 l1 c1] 25 [.bool j1, .slice B1 o1 e1] lf2 lf2
 have nb1 := b1.out.up na
 have nkeep := Keep.ofBelow na
 have nbel := below_then HB4.out na HB4.out.size
 generalize (W3.alloc (.cells #[.bool k1, .slice A1 l1 c1] 25)).alloc (.cells #[.bool j1, .slice B1 o1 e1] 25) = W6 at *
 clear na x10 x11 x12 x13 szb s1 b1
 have b1 := Lib.hid nb1
 have b3 := Lib.hid nb3
 have b4 := Lib.hid nb4
 clear nb1 nb3 nb4
 replace H1 := Lib.hid (H1.out.kept nkeep)
 replace HA := Lib.hid (HA.out.kept nkeep)
 replace HB := Lib.hid (HB.out.kept nkeep)
 clear nkeep
 have HB7 := Lib.hid nbel
 clear nbel HB4
 obtain ⟨x10, x11, x12, x13, s1⟩ := b1.out.d4
 obtain ⟨x30, x31, s3⟩ := b3.out.d2
 obtain ⟨x40, x41, s4⟩ := b4.out.d2
 have szb := HB7.out.size
 refine AS.region_facts (ratTextFL2 x n) (JNo W6) [[], [], [10, 11], [12]] [] [[]] [0, 0, 0, 0] [] (fun u => by simp only [ratTextFL2, AS.temps, List.map_cons, List.map_nil, fillL, List.setIfInBounds_toArray, List.set_cons_zero, List.set_cons_succ]; rfl) (by kernel_rfl) (by kernel_rfl) (JNo.st W6) (below_drew (Below.refl _ _)) ?_ ?_
 ·refine AS.sc rfl rfl rfl ?_ ?_
  ·intro k_ u w_ hk hJ hF K hK
   clear hF
   obtain rfl : k_ = 0 := Nat.le_zero.1 hk
   have hJ0 : Below W6.heap.size W6 w_ := hJ
   obtain ⟨y0, y1⟩ := ((b4.out).up hJ0).c2
   go_simp
   exact hK.out _ _ (Below.refl _ _) ((HB.out).kept (Keep.ofBelow hJ0)) trivial
  refine AS.sc rfl rfl rfl ?_ ?_
  ·intro k_ u w_ hk hJ hF K hK
   clear hF
   go_simp
   refine (of_fact (n := 1) (by decide) (by decide)).mono ?_
   rintro e w' ⟨v, rfl, hv, hb⟩
   exact hK.out _ _ hb (hv) trivial
  refine AS.sc rfl rfl rfl ?_ ?_
  ·intro k_ u w_ hk hJ hF K hK
   have h10 : PInt ((x.den : Int)) n (u 10) w_ := AS.facts_get hF 10 (by simp)
   have h11 : PInt (1) 3 (u 11) w_ := AS.facts_get hF 11 (by simp)
   clear hF
   go_simp
   refine (cmp_is h10 h11 (by omega) (by omega) hcm).mono ?_
   rintro e w' ⟨rfl, hb⟩
   exact hK.out _ _ hb (rfl) trivial
  refine AS.sc rfl rfl rfl ?_ ?_
  ·intro k_ u w_ hk hJ hF K hK
   have h12 : u 12 = .int .i64 1 := AS.facts_get hF 12 (by simp)
   clear hF
   simp only [h12] at hK ⊢
   clear h12
   go_simp
   exact hK.out _ _ (Below.refl _ _) (rfl) trivial
  exact AS.StepsOk.nil
 ·intro u W8 hJ9 hF
  have h13 : u 13 = .bool false := AS.facts_get hF 13 (by simp [ratTextFL2, AS.temps])
  clear hF
  replace b1 := hup b1 hJ9
  replace b3 := hup b3 hJ9
  replace b4 := hup b4 hJ9
  replace H1 := Lib.hid (H1.out.kept (Keep.ofBelow hJ9))
  replace HA := Lib.hid (HA.out.kept (Keep.ofBelow hJ9))
  replace HB := Lib.hid (HB.out.kept (Keep.ofBelow hJ9))
  have nbel := below_then HB7.out hJ9 HB7.out.size
  have HB9 := Lib.hid nbel
  clear nbel HB7 hJ9 x10 x11 x12 x13 x30 x31 x40 x41 szb s1 s3 s4
  obtain ⟨x10, x11, x12, x13, s1⟩ := b1.out.d4
  obtain ⟨x30, x31, s3⟩ := b3.out.d2
  obtain ⟨x40, x41, s4⟩ := b4.out.d2
  have szb := HB9.out.size
  rw [show u 13 = _ from h13]
  clear h13
  have HTW := Lib.hid (tab_up HT.out HB9.out)
  have HL1 := Lib.hid (decZ_len HA.out)
  have HL2 := Lib.hid (decZ_len HB.out)
  go_upto_region 4 with (fail)
  refine AS.region_facts (ratTextFL3 x n) (JNo W8) [[], [16], [17], [], [19], [18, 20], [21]] [] [[]] [0, 0, 0, 0, 0, 0, 0] [] (fun u => by simp only [ratTextFL3, AS.temps, List.map_cons, List.map_nil, fillL, List.setIfInBounds_toArray, List.set_cons_zero, List.set_cons_succ]; rfl) (by kernel_rfl) (by kernel_rfl) (JNo.st W8) (below_drew (Below.refl _ _)) ?_ ?_
  ·refine AS.sc rfl rfl rfl ?_ ?_
   ·intro k_ u w_ hk hJ hF K hK
    clear hF
    obtain rfl : k_ = 0 := Nat.le_zero.1 hk
    have hJ0 : Below W8.heap.size W8 w_ := hJ
    obtain ⟨y0, y1⟩ := ((b3.out).up hJ0).c2
    go_simp
    exact hK.out _ _ (Below.refl _ _) ((HA.out).kept (Keep.ofBelow hJ0)) trivial
   refine AS.sc rfl rfl rfl ?_ ?_
   ·intro k_ u w_ hk hJ hF K hK
    have h16 : PInt (x.num) n (u 16) w_ := AS.facts_get hF 16 (by simp)
    clear hF
    go_simp
    refine (text_fact h16 (by omega) (tab_up HTW.out hJ)).mono ?_
    rintro e w' ⟨rfl, hb⟩
    exact hK.out _ _ hb (rfl) trivial
   refine AS.sc rfl rfl rfl ?_ ?_
   ·intro k_ u w_ hk hJ hF K hK
    have h17 : u 17 = .string ⟨(decZ (x.num)).toArray⟩ := AS.facts_get hF 17 (by simp)
    clear hF
    simp only [h17] at hK ⊢
    clear h17
    have hz1 := run_string_add_lists (P := Tryz.prog) w_ (decZ x.num) [47] (by have := HL1.out; omega) (by simp)
    go_simp
    exact hK.out _ _ (Below.refl _ _) (rfl) trivial
   refine AS.sc rfl rfl rfl ?_ ?_
   ·intro k_ u w_ hk hJ hF K hK
    clear hF
    obtain rfl : k_ = 0 := Nat.le_zero.1 hk
    have hJ0 : Below W8.heap.size W8 w_ := hJ
    obtain ⟨y0, y1⟩ := ((b4.out).up hJ0).c2
    go_simp
    exact hK.out _ _ (Below.refl _ _) ((HB.out).kept (Keep.ofBelow hJ0)) trivial
   refine AS.sc rfl rfl rfl ?_ ?_
   ·intro k_ u w_ hk hJ hF K hK
    have h19 : PInt ((x.den : Int)) n (u 19) w_ := AS.facts_get hF 19 (by simp)
    clear hF
    go_simp
    refine (text_fact h19 (by omega) (tab_up HTW.out hJ)).mono ?_
    rintro e w' ⟨rfl, hb⟩
    exact hK.out _ _ hb (rfl) trivial
   refine AS.sc rfl rfl rfl ?_ ?_
   ·intro k_ u w_ hk hJ hF K hK
    have h18 : u 18 = .string ⟨(decZ x.num ++ [47]).toArray⟩ := AS.facts_get hF 18 (by simp)
    have h20 : u 20 = .string ⟨(decZ ((x.den : Int))).toArray⟩ := AS.facts_get hF 20 (by simp)
    clear hF
    simp only [h18, h20] at hK ⊢
    clear h18 h20
    have hz1 := run_string_add_lists (P := Tryz.prog) w_ (decZ x.num ++ [47]) (decZ (x.den : Int)) (by have := HL1.out; rw [List.length_append]; simp; omega) (by have := HL2.out; omega)
    go_simp
    exact hK.out _ _ (Below.refl _ _) (rfl) trivial
   refine AS.sc rfl rfl rfl ?_ ?_
   ·intro k_ u w_ hk hJ hF K hK
    have h21 : u 21 = .string ⟨(decZ x.num ++ 47 :: decZ (x.den : Int)).toArray⟩ := AS.facts_get hF 21 (by simp)
    clear hF
    simp only [h21] at hK ⊢
    clear h21
    go_simp
    exact hK.out _ _ (Below.refl _ _) (rfl) trivial
   exact AS.StepsOk.nil
  ·intro u W10 hJ9 hF
   have h2 : u 2 = .string ⟨(decZ x.num ++ 47 :: decZ (x.den : Int)).toArray⟩ := AS.facts_get hF 2 (by simp [ratTextFL3, AS.temps])
   clear hF
   rw [show u 2 = _ from h2]
   clear h2
   replace b1 := hup b1 hJ9
   replace b3 := hup b3 hJ9
   replace b4 := hup b4 hJ9
   replace H1 := Lib.hid (H1.out.kept (Keep.ofBelow hJ9))
   replace HA := Lib.hid (HA.out.kept (Keep.ofBelow hJ9))
   replace HB := Lib.hid (HB.out.kept (Keep.ofBelow hJ9))
   have nbel := below_then HB9.out hJ9 HB9.out.size
   have HB11 := Lib.hid nbel
   clear nbel HB9 hJ9 x10 x11 x12 x13 x30 x31 x40 x41 szb s1 s3 s4
   obtain ⟨x10, x11, x12, x13, s1⟩ := b1.out.d4
   obtain ⟨x30, x31, s3⟩ := b3.out.d2
   obtain ⟨x40, x41, s4⟩ := b4.out.d2
   have szb := HB11.out.size
   go_wp2_with fail
   have hkeep := (Keep.refl W10)
   have hbel := HB11.out
   refine bodyPost_ret (v := .string ⟨(decZ x.num ++ 47 :: decZ (x.den : Int)).toArray⟩) (by simp [results, Tryz.results17, go_sem]) rfl ⟨by unfold ratText; rw [if_neg hd], hbel⟩
theorem ratText_fact {x : Rat} {n : Nat} {v : Value} {w : World} (h : PRat x n v w) (hn3 : 3 ≤ n) (hn : n ≤ 10000) (ht : Tab w.heap.size w) :
  Calls Tryz.prog 17 #[v] w fun e w' => e = .returned (.string ⟨(ratText x).toArray⟩) ∧ Below w.heap.size w w' := by
 by_cases hd : x.den = 1
 ·exact ratText_int h hn3 hn ht hd (by rw [hd]; rfl)
 ·exact ratText_quo h hn3 hn ht hd (by unfold cmpI; have := x.den_pos; rw [if_neg (by omega), if_neg (by omega)])
theorem ratScale_is {a r s : Int} {x : Rat} {n : Nat} {v : Value} {w : World} (h : PRat x n v w) (hn3 : 3 ≤ n) (hn : n ≤ 10000) (hrs : scaleN a x = r ∧ scaleE a x = s) :
  Calls Tryz.prog 47 #[.int .i64 a, v] w fun e w' => e = .returned (.tuple #[.int .i64 r, .int .i64 s]) ∧ Below w.heap.size w w' := by
 obtain ⟨rfl, rfl⟩ := hrs
 exact ratScale_fact h hn3 hn
theorem ratText_is {x : Rat} {n : Nat} {v : Value} {w : World} {T : List UInt8} (h : PRat x n v w) (hn3 : 3 ≤ n) (hn : n ≤ 10000) (ht : Tab w.heap.size w) (hT : ratText x = T) :
  Calls Tryz.prog 17 #[v] w fun e w' => e = .returned (.string ⟨T.toArray⟩) ∧ Below w.heap.size w w' := hT ▸ ratText_fact h hn3 hn ht
theorem awake_scale : scaleN 100 (Rat.divInt 1 3 + Rat.divInt 1 3) = 67 ∧ scaleE 100 (Rat.divInt 1 3 + Rat.divInt 1 3) = 0 := by decide +kernel
theorem awake_text : ratText (Rat.divInt 1 3 + Rat.divInt 1 6) = [49, 47, 50] := by decide +kernel
set_option maxRecDepth 20000 in
set_option maxHeartbeats 3200000 in
theorem awake_fact {w : World} (ht : Tab w.heap.size w) :
  Calls Tryz.prog 13 #[] w fun e w' => e = .returned (.bool true) ∧ Below w.heap.size w w' := by
 have HT := Lib.hid ht
 clear ht
 go_enter Tryz.func13, Tryz.ntmps13
 go_wp2_with fail
 refine (ofq_fact (a := 1) (b := 3) (by decide) (by decide) (by decide) (by decide) (by decide)).mono ?_
 rintro e W1 ⟨v, rfl, hv, hb⟩
 have nbel := hb
 have HB2 := Lib.hid nbel
 clear nbel hb
 have szb := HB2.out.size
 obtain ⟨k1, A1, l1, c1, k2, A2, l2, c2, rfl⟩ := hv.open
 have HX := Lib.hid hv
 clear hv
 go_upto_region 2 with (fail)
 change Code.wp Tryz.prog _ _ _ (W1.alloc (.cells #[.bool k1, .slice A1 l1 c1, .bool k2, .slice A2 l2 c2] 27))
 obtain ⟨nb1, na⟩ := new1 W1 27 [.bool k1, .slice A1 l1 c1, .bool k2, .slice A2 l2 c2] lf4
 have nkeep := Keep.ofBelow na
 have nbel := below_then HB2.out na HB2.out.size
 generalize W1.alloc (.cells #[.bool k1, .slice A1 l1 c1, .bool k2, .slice A2 l2 c2] 27) = W3 at *
 clear na szb
 have b1 := Lib.hid nb1
 clear nb1
 replace HX := Lib.hid (HX.out.kept nkeep)
 clear nkeep
 have HB4 := Lib.hid nbel
 clear nbel HB2
 obtain ⟨x10, x11, x12, x13, s1⟩ := b1.out.d4
 have szb := HB4.out.size
 go_wp2_with fail
 refine (ofq_fact (a := 1) (b := 6) (by decide) (by decide) (by decide) (by decide) (by decide)).mono ?_
 rintro e W5 ⟨v, rfl, hv, hb⟩
 replace b1 := hup b1 hb
 replace HX := Lib.hid (HX.out.kept (Keep.ofBelow hb))
 have nbel := below_then HB4.out hb HB4.out.size
 have HB6 := Lib.hid nbel
 clear nbel HB4 hb x10 x11 x12 x13 szb s1
 obtain ⟨x10, x11, x12, x13, s1⟩ := b1.out.d4
 have szb := HB6.out.size
 obtain ⟨k3, A3, l3, c3, k4, A4, l4, c4, rfl⟩ := hv.open
 have HY := Lib.hid hv
 clear hv
 go_upto_region 3 with (fail)
 have q7 := b1.out.lt
 change Code.wp Tryz.prog _ _ _ (W5.alloc (.cells #[.bool k3, .slice A3 l3 c3, .bool k4, .slice A4 l4 c4] 27))
 obtain ⟨nb3, na⟩ := new1 W5 27 [.bool k3, .slice A3 l3 c3, .bool k4, .slice A4 l4 c4] lf4
 have nb1 := b1.out.up na
 have nkeep := Keep.ofBelow na
 have nbel := below_then HB6.out na HB6.out.size
 generalize W5.alloc (.cells #[.bool k3, .slice A3 l3 c3, .bool k4, .slice A4 l4 c4] 27) = W8 at *
 clear na x10 x11 x12 x13 szb s1 b1
 have b1 := Lib.hid nb1
 have b3 := Lib.hid nb3
 clear nb1 nb3
 replace HX := Lib.hid (HX.out.kept nkeep)
 replace HY := Lib.hid (HY.out.kept nkeep)
 clear nkeep
 have HB9 := Lib.hid nbel
 clear nbel HB6
 obtain ⟨x10, x11, x12, x13, s1⟩ := b1.out.d4
 obtain ⟨x30, x31, x32, x33, s3⟩ := b3.out.d4
 have szb := HB9.out.size
 go_wp2_with fail
 refine (ratAdd_fact HX.out HX.out (by decide) (by decide)).mono ?_
 rintro e W10 ⟨v, rfl, hv, hb⟩
 replace b1 := hup b1 hb
 replace b3 := hup b3 hb
 replace HX := Lib.hid (HX.out.kept (Keep.ofBelow hb))
 replace HY := Lib.hid (HY.out.kept (Keep.ofBelow hb))
 have nbel := below_then HB9.out hb HB9.out.size
 have HB11 := Lib.hid nbel
 clear nbel HB9 hb x10 x11 x12 x13 x30 x31 x32 x33 szb s1 s3
 obtain ⟨x10, x11, x12, x13, s1⟩ := b1.out.d4
 obtain ⟨x30, x31, x32, x33, s3⟩ := b3.out.d4
 have szb := HB11.out.size
 obtain ⟨k5, A5, l5, c5, k6, A6, l6, c6, rfl⟩ := hv.open
 have HS := Lib.hid hv
 clear hv
 go_wp2_with fail
 refine (ratScale_is HS.out (by decide) (by decide) awake_scale).mono ?_
 rintro e W12 ⟨rfl, hb⟩
 replace b1 := hup b1 hb
 replace b3 := hup b3 hb
 replace HX := Lib.hid (HX.out.kept (Keep.ofBelow hb))
 replace HY := Lib.hid (HY.out.kept (Keep.ofBelow hb))
 replace HS := Lib.hid (HS.out.kept (Keep.ofBelow hb))
 have nbel := below_then HB11.out hb HB11.out.size
 have HB13 := Lib.hid nbel
 clear nbel HB11 hb x10 x11 x12 x13 x30 x31 x32 x33 szb s1 s3
 obtain ⟨x10, x11, x12, x13, s1⟩ := b1.out.d4
 obtain ⟨x30, x31, x32, x33, s3⟩ := b3.out.d4
 have szb := HB13.out.size
 go_wp2_with fail
 refine (ratAdd_fact HX.out HY.out (by decide) (by decide)).mono ?_
 rintro e W14 ⟨v, rfl, hv, hb⟩
 replace b1 := hup b1 hb
 replace b3 := hup b3 hb
 replace HX := Lib.hid (HX.out.kept (Keep.ofBelow hb))
 replace HY := Lib.hid (HY.out.kept (Keep.ofBelow hb))
 replace HS := Lib.hid (HS.out.kept (Keep.ofBelow hb))
 have nbel := below_then HB13.out hb HB13.out.size
 have HB15 := Lib.hid nbel
 clear nbel HB13 hb x10 x11 x12 x13 x30 x31 x32 x33 szb s1 s3
 obtain ⟨x10, x11, x12, x13, s1⟩ := b1.out.d4
 obtain ⟨x30, x31, x32, x33, s3⟩ := b3.out.d4
 have szb := HB15.out.size
 obtain ⟨k7, A7, l7, c7, k8, A8, l8, c8, rfl⟩ := hv.open
 have HU := Lib.hid hv
 clear hv
 go_wp2_with fail
 refine (ratText_is HU.out (by decide) (by decide) (tab_up HT.out HB15.out) awake_text).mono ?_
 rintro e W16 ⟨rfl, hb⟩
 replace b1 := hup b1 hb
 replace b3 := hup b3 hb
 replace HX := Lib.hid (HX.out.kept (Keep.ofBelow hb))
 replace HY := Lib.hid (HY.out.kept (Keep.ofBelow hb))
 replace HS := Lib.hid (HS.out.kept (Keep.ofBelow hb))
 replace HU := Lib.hid (HU.out.kept (Keep.ofBelow hb))
 have nbel := below_then HB15.out hb HB15.out.size
 have HB17 := Lib.hid nbel
 clear nbel HB15 hb x10 x11 x12 x13 x30 x31 x32 x33 szb s1 s3
 obtain ⟨x10, x11, x12, x13, s1⟩ := b1.out.d4
 obtain ⟨x30, x31, x32, x33, s3⟩ := b3.out.d4
 have szb := HB17.out.size
 go_wp2_with fail
 have hkeep := (Keep.refl W16)
 have hbel := HB17.out
 refine bodyPost_ret (v := .bool true) (by simp [results, Tryz.results13, go_sem]) rfl ⟨rfl, hbel⟩
set_option maxHeartbeats 1600000
set_option maxRecDepth 20000
def dropZ (l : List UInt8) : List UInt8 := l.dropWhile (· == 48)
theorem dropZ_nil : dropZ [] = [] := rfl
theorem dropZ_zero (r : List UInt8) : dropZ (48 :: r) = dropZ r := by simp [dropZ]
theorem dropZ_other {c : UInt8} (r : List UInt8) (h : c ≠ 48) : dropZ (c :: r) = c :: r := by simp [dropZ, h]
theorem bytes_ext {a b : ByteArray} (h : a.data.toList = b.data.toList) : a = b := by
 obtain ⟨⟨x⟩⟩ := a
 obtain ⟨⟨y⟩⟩ := b
 simp at h
 rw [h]
theorem trimByte_any (s : ByteArray) (w : World) (hs : s.size ≤ 1000000) :
  Calls Tryz.prog 198 #[.string s, .int .u8 48] w fun e w' => e = .returned (.string ⟨(dropZ s.data.toList).toArray⟩) ∧ ∃ n, w' = w.drewN n := by
 go_enter Tryz.func198, Tryz.ntmps198
 go_wp2
 go_loopw [0] (fun v wr => ∃ t : ByteArray, v = .string t ∧ Hid (t.size ≤ 1000000) ∧ Hid (∃ n, wr = w.drewN n) ∧ Hid (dropZ t.data.toList = dropZ s.data.toList)) (fun v _ => match v with | .string t => t.size | _ => 0)
 case atStart => exact ⟨s, rfl, hs, ⟨0, rfl⟩, rfl⟩
 case round =>
  obtain ⟨t, rfl, hts, hw, hd⟩ := hrel
  obtain ⟨n, rfl⟩ := hw.out
  rcases Nat.eq_zero_or_pos t.size with h0 | h0
  ·have hd0 : decide ((0 : Int) < ((t.size : Nat) : Int)) = false := by simp [h0]
   go_wp2
   go_ret
   refine ⟨?_, n, rfl⟩
   have h1 : t.data.toList = [] := by rw [← List.length_eq_zero_iff]; rw [size_list]; exact h0
   have h2 := hd.out
   rw [h1, dropZ_nil] at h2
   have h3 : t = ⟨(dropZ s.data.toList).toArray⟩ := bytes_ext (by rw [h1, ← h2])
   rw [h3]
   rfl
  ·have hp : ((0 : Int) < ((t.size : Nat) : Int)) := by omega
   have hc : t.data.toList = (t[0]'h0) :: t.data.toList.drop 1 := by
    have := toList_get t 0 h0
    have h1 : 0 < t.data.toList.length := by rw [size_list]; exact h0
    rw [← this, ← List.drop_eq_getElem_cons h1, List.drop_zero]
   by_cases hz : (t[0]'h0).toNat = 48
   ·go_wp2
    have hsz : (t.extract 1 t.size).size = t.size - 1 := by simp
    refine ⟨⟨t.extract 1 t.size, rfl, ?_, ⟨n, rfl⟩, ?_⟩, ?_⟩
    ·show (t.extract 1 t.size).size ≤ 1000000
     have := hts.out
     omega
    ·show dropZ (t.extract 1 t.size).data.toList = _
     rw [Lib.extract_to_end, ← hd.out]
     have h48 : (t[0]'h0) = 48 := UInt8.toNat_inj.1 hz
     rw [hc, h48, dropZ_zero]
     rfl
    ·show (t.extract 1 t.size).size < t.size
     omega
   ·go_wp2
    go_ret
    refine ⟨?_, n, rfl⟩
    have e1 : dropZ t.data.toList = t.data.toList := (congrArg dropZ hc).trans ((dropZ_other _ (fun h => hz (by rw [h]; rfl))).trans hc.symm)
    have h3 : t = ⟨(dropZ s.data.toList).toArray⟩ := bytes_ext (by rw [← hd.out, e1])
    exact congrArg (fun x => Ending.returned (.string x)) h3
theorem trimLeft_any (s : ByteArray) (w : World) (hs : s.size ≤ 1000000) :
  Calls Tryz.prog 213 #[.string s, .string ⟨#[48]⟩] w fun e w' => e = .returned (.string ⟨(dropZ s.data.toList).toArray⟩) ∧ ∃ n, w' = w.drewN n := by
 by_cases h0 : s.data.toList = []
 ·have h1 : s = ⟨#[]⟩ := bytes_ext (by rw [h0])
  subst h1
  go_enter Tryz.func213, Tryz.ntmps213
  go_wp2
  go_ret
  exact ⟨rfl, 0, rfl⟩
 ·have HB := Lib.hid (fun W => trimByte_any s W hs)
  have hne : s.data.toList.isEmpty = false := by simpa using h0
  have hne2 : s.toList.isEmpty = false := by rw [Lib.toList_data]; exact hne
  clear h0
  go_enter Tryz.func213, Tryz.ntmps213
  go_wp2_with fail
  refine (HB.out _).mono ?_
  rintro e w1 ⟨rfl, n, rfl⟩
  go_wp2_with fail
  go_ret
  exact ⟨rfl, n, rfl⟩
def AllDig (l : List UInt8) : Prop := ∀ c ∈ l, isDig c = true
theorem dropZ_num (l : List UInt8) : numOf (dropZ l) = numOf l := by
 induction l with
 | nil => rfl
 | cons c r ih =>
  by_cases h : c = 48
  ·subst h
   rw [dropZ_zero, ih]
   unfold numOf
   rw [List.foldl_cons]
   rfl
  ·rw [dropZ_other r h]
theorem dropZ_sub (l : List UInt8) : ∀ c ∈ dropZ l, c ∈ l := fun _c h => (List.dropWhile_sublist _).subset h
theorem dropZ_len (l : List UInt8) : (dropZ l).length ≤ l.length := (List.dropWhile_sublist _).length_le
theorem dropZ_head (l : List UInt8) : (dropZ l).head? ≠ some 48 := by
 induction l with
 | nil => simp [dropZ]
 | cons c r ih =>
  by_cases h : c = 48
  ·subst h; rw [dropZ_zero]; exact ih
  ·rw [dropZ_other r h]; simp [h]
theorem dig_ne45 {l : List UInt8} (hd : AllDig l) : l.head? ≠ some 45 := by
 intro h
 cases l with
 | nil => simp at h
 | cons c r =>
  simp at h
  subst h
  have := hd 45 (List.mem_cons_self ..)
  exact absurd this (by decide)
theorem noNeg {l : List UInt8} (h : l.head? ≠ some 45) : negOf l = false ∧ restOf l = l := by
 have h1 : Lib.hasPrefix l [45] = false := by
  cases l with
  | nil => rfl
  | cons c r =>
   simp at h
   show ([45] : List UInt8).isPrefixOf (c :: r) = false
   simp [List.isPrefixOf, Ne.symm h]
 refine ⟨h1, ?_⟩
 unfold restOf Lib.trimPrefix
 rw [h1]; rfl
theorem part_err {l : List UInt8} (hd : AllDig l) (hl : l.length ≤ 2000) : (dropZ l = [] ∧ errOf (dropZ l) = 3) ∨ (dropZ l ≠ [] ∧ errOf (dropZ l) = 0 ∧ negOf (dropZ l) = false ∧ restOf (dropZ l) = dropZ l) := by
 by_cases h : dropZ l = []
 ·exact .inl ⟨h, by rw [h]; decide⟩
 ·have h1 : AllDig (dropZ l) := fun c hc => hd c (dropZ_sub l c hc)
  obtain ⟨h2, h3⟩ := noNeg (dig_ne45 h1)
  refine .inr ⟨h, ?_, h2, h3⟩
  have hok : okNum (dropZ l) = true := by
   unfold okNum
   rw [Bool.and_eq_true, Bool.or_eq_true, Bool.and_eq_true]
   refine ⟨List.all_eq_true.2 h1, .inr ⟨by simpa using h, by simpa using dropZ_head l⟩⟩
  have hb : badNum (dropZ l) = false := by unfold badNum; rw [h3, hok, h2]; rfl
  unfold errOf
  rw [hb, h3]
  have := dropZ_len l
  rw [if_neg (by simp), if_neg (by omega)]
set_option maxRecDepth 20000 in
set_option maxHeartbeats 3200000 in
theorem readPart_any (s : ByteArray) (w : World) (hd : AllDig s.data.toList) (hl : s.size ≤ 2000) :
  Calls Tryz.prog 180 #[.string s] w fun e w' => ∃ v, e = .returned v ∧ PInt (numOf s.data.toList) 223 v w' ∧ Below w.heap.size w w' := by
 have htr := Lib.hid (fun W => trimLeft_any s W (by omega))
 have hlen : s.data.toList.length ≤ 2000 := by rw [size_list]; exact hl
 have hpe := Lib.hid (part_err hd hlen)
 have hps := Lib.hid (fun W => parse_any (⟨(dropZ s.data.toList).toArray⟩ : ByteArray) W (by have := dropZ_len s.data.toList; show (dropZ s.data.toList).toArray.size ≤ 1000000; simp; omega))
 have hnum := Lib.hid (dropZ_num s.data.toList)
 clear hd hlen hl
 generalize hD : dropZ s.data.toList = D at *
 have HD := Lib.hid hD
 clear hD
 generalize hN : numOf s.data.toList = N at *
 have HN := Lib.hid hN
 clear hN
 go_enter Tryz.func180, Tryz.ntmps180
 go_upto_region 1 with (fail)
 change Code.wp Tryz.prog _ _ _ (w.alloc (.cells #[.bool false, .slice none 0 0] 25))
 have nb2 := Bx.new 25 w [.bool false, .slice none 0 0] lf2
 have hbw := below_alloc_new (w := w) (.cells #[.bool false, .slice none 0 0] 25)
 generalize w.alloc (.cells #[.bool false, .slice none 0 0] 25) = W0 at *
 have B2 := Lib.hid nb2
 have HB := Lib.hid hbw
 clear nb2 hbw
 go_wp2_with fail
 refine (htr.out _).mono ?_
 rintro e w1 ⟨rfl, n, rfl⟩
 go_wp2_with fail
 refine (hps.out _).mono ?_
 rintro e w2 ⟨k, A, c, L, rfl, hi, hll, h0, h1, hb⟩
 have b2 := B2.out.up (below_undrewN hb)
 have hb2 := below_then HB.out (below_undrewN hb) HB.out.size
 have hv : PInt N 223 (.agg #[.bool k, .slice A (List.length L) c]) w2 := by
  refine ⟨k, A, c, L, rfl, hi, ?_, hll⟩
  have h2 := hpe.out
  rw [← hnum.out]
  rcases h2 with ⟨h3, h4⟩ | ⟨h3, h4, h5, h6⟩
  ·obtain ⟨rfl, rfl⟩ := h1.out (by rw [h4]; decide)
   rw [h3]; rfl
  ·obtain ⟨h7, h8⟩ := h0.out h4
   rw [h5] at h7
   rw [h6] at h8
   rw [h7]
   show (val9 L : Int) = _
   rw [h8]
 generalize List.length L = lL at *
 have HV := Lib.hid hv
 have bb := Lib.hid b2
 have HB2 := Lib.hid hb2
 have s1 : w.heap.size < w2.heap.size := b2.lt
 clear b2 hb2 hv hb hi hll h0 h1
 go_upto_region 2 with (fail)
 change Code.wp Tryz.prog _ _ _ (w2.alloc (.cells #[.bool k, .slice A lL c] 25))
 have b2 := bb.out.alloc (.cells #[.bool k, .slice A lL c] 25)
 have b3 := Bx.new 25 w2 [.bool k, .slice A lL c] lf2
 have hv3 := HV.out.kept (Keep.ofBelow (below_alloc_new (w := w2) (.cells #[.bool k, .slice A lL c] 25)))
 have hb3 := HB2.out.alloc (Nat.le_of_lt s1) (.cells #[.bool k, .slice A lL c] 25)
 generalize w2.alloc (.cells #[.bool k, .slice A lL c] 25) = w3 at *
 have y0 : w3.cell? ⟨w.heap.size, 0, none⟩ = some (.bool false) := b2.cell 0
 have y1 : w3.cell? ⟨w.heap.size, 1, none⟩ = some (.slice none 0 0) := b2.cell 1
 have z0 : w3.frozen? ⟨w.heap.size, 0, none⟩ = false := b2.frozen 0
 have z1 : w3.frozen? ⟨w.heap.size, 1, none⟩ = false := b2.frozen 1
 have x0 : w3.cell? ⟨w2.heap.size, 0, none⟩ = some (.bool k) := b3.cell 0
 have x1 : w3.cell? ⟨w2.heap.size, 1, none⟩ = some (.slice A lL c) := b3.cell 1
 have HV3 := Lib.hid hv3
 have HB3 := Lib.hid hb3
 have bb2 := Lib.hid b2
 clear b2 b3 hv3 hb3 HV HB2
 go_wp2_with fail
 have hkeep := Keep.set (Keep.set (Keep.refl w3) bb2.out 0 (Leaf.bool k)) (Bx.set bb2.out 0 (Leaf.bool k)) 1 (Leaf.slice A lL c)
 have hbel := (HB3.out.setCell (p := ⟨w.heap.size, 0, none⟩) (Nat.le_refl _) (.bool k)).setCell (p := ⟨w.heap.size, 1, none⟩) (Nat.le_refl _) (.slice A lL c)
 refine bodyPost_ret (v := .agg #[.bool k, .slice A lL c]) (by simp [results, Tryz.results180, go_sem, y0, y1]) rfl ⟨_, rfl, HV3.out.kept hkeep, hbel⟩
set_option maxHeartbeats 3200000
set_option maxRecDepth 20000
def readL (sh : Nat → Nat) (x : Nat) (l : List UInt8) : Nat := if h : l = [] then x else readL sh (sh (x * 10 ^ (min l.length 1000) + numOf (l.take (min l.length 1000)))) (l.drop (min l.length 1000))
termination_by l.length
decreasing_by
 have := List.length_pos_iff.2 h
 rw [List.length_drop]
 omega
theorem readL_nil (sh : Nat → Nat) (x : Nat) : readL sh x [] = x := by rw [readL]; simp
theorem readL_step (sh : Nat → Nat) (x : Nat) {l : List UInt8} (h : l ≠ []) : readL sh x l = readL sh (sh (x * 10 ^ (min l.length 1000) + numOf (l.take (min l.length 1000)))) (l.drop (min l.length 1000)) := by rw [readL]; simp [h]
def tenL (n : Nat) : List UInt8 := 49 :: List.replicate n 48
theorem numOf_zeros (n : Nat) (x : Nat) : (List.replicate n (48 : UInt8)).foldl (fun n c => 10 * n + (c.toNat - 48)) x = x * 10 ^ n := by
 induction n generalizing x with
 | zero => simp
 | succ n ih =>
  rw [List.replicate_succ, List.foldl_cons, ih]
  simp
  rw [Nat.pow_succ, Nat.mul_comm 10 x, Nat.mul_assoc, Nat.mul_comm 10]
theorem tenL_num (n : Nat) : numOf (tenL n) = 10 ^ n := by
 unfold numOf tenL
 rw [List.foldl_cons, numOf_zeros]
 simp
theorem tenL_dig (n : Nat) : AllDig (tenL n) := by
 intro c hc
 unfold tenL at hc
 rcases List.mem_cons.1 hc with rfl | h
 ·decide
 ·rw [(List.mem_replicate.1 h).2]; decide
theorem rep_zero (n : Nat) : Lib.repeatL [48] n = List.replicate n 48 := by
 induction n with
 | zero => rfl
 | succ n ih =>
  rw [List.replicate_succ, ← ih]
  rfl
theorem shrink1_fact {z : Int} {n : Nat} {a : Value} {w : World} (h : PInt z n a w) :
  Calls Tryz.prog 146 #[a] w fun e w' => ∃ v, e = .returned v ∧ PInt z (n + 1) v w' ∧ Below w.heap.size w w' := by
 obtain ⟨k, A, l, c, rfl⟩ := h.open
 have H := Lib.hid h
 clear h
 go_enter Tryz.func146, Tryz.ntmps146
 go_wp2
 refine bodyPost_ret (v := .agg #[.bool k, .slice A l c]) (by simp [results, Tryz.results146, go_sem]) rfl ⟨_, rfl, (H.out.kept (Keep.alloc (Keep.alloc (Keep.refl w) (.cells #[.bool k, .slice A l c] 25)) (.cells #[.bool k, .slice A l c] 25))).more (by omega), below_a2 _ _ _⟩
def JOne (w0 W : World) (t : TypeId) (o : Nat) (ov : List Value) (g : Nat) : Nat → List Value → World → Prop
 | 0, _, w => Below W.heap.size W w
 | _ + 1, l, w => (Below w0.heap.size w0 w ∧ w0.heap.size ≤ w.heap.size) ∧ Bx t w o ov ∧ ∃ vs : List Value, l = [.agg vs.toArray] ∧ Bx t w g vs
theorem JOne.st (w0 W : World) (t : TypeId) (o : Nat) (ov : List Value) (g : Nat) : ∀ k l w w', Below w.heap.size w w' → JOne w0 W t o ov g k l w → JOne w0 W t o ov g k l w'
 | 0, _, _, _, hb, h => below_then h hb h.size
 | _ + 1, _, _, _, hb, ⟨⟨h1, h2⟩, h0, vs, h3, h4⟩ => ⟨⟨below_then h1 hb h2, Nat.le_trans h2 hb.size⟩, h0.up hb, vs, h3, h4.up hb⟩
theorem read_cast (X m N : Nat) : (X : Int) * ((10 ^ m : Nat) : Int) + (N : Int) = ((X * 10 ^ m + N : Nat) : Int) := by rw [Int.natCast_add, Int.natCast_mul]
theorem rep_fact (m : Nat) (w : World) (hm : m ≤ 1000000) :
  Calls Tryz.prog 96 #[.string ⟨#[48]⟩, .int .i64 m] w fun e w' => e = .returned (.string ⟨(List.replicate m 48).toArray⟩) ∧ Below w.heap.size w w' := by
 have h := Tryz.strings_Repeat ⟨#[48]⟩ m w (by omega) (by show 1 * m ≤ _; omega)
 rw [show Lib.repeatL (⟨#[48]⟩ : ByteArray).data.toList m = List.replicate m 48 from rep_zero m] at h
 exact h
def read1FL (t : ByteArray) (m X n : Nat) : List (Nat × AS.Fact) := [(19, AS.Fact.is (.func (.func 146) #[] #[])), (20, AS.Fact.int ((X : Int)) n), (21, AS.Fact.int (((10 ^ m : Nat) : Int)) 223), (22, AS.Fact.int (((X : Int)) * (((10 ^ m : Nat) : Int))) (n + 223)), (23, AS.Fact.is (.string t)), (24, AS.Fact.is (.int .i64 (m : Int))), (25, AS.Fact.is (.string (t.extract 0 m))), (26, AS.Fact.int (((numOf (t.extract 0 m).data.toList : Nat) : Int)) 223), (27, AS.Fact.int ((((X : Int)) * (((10 ^ m : Nat) : Int))) + (((numOf (t.extract 0 m).data.toList : Nat) : Int))) (((n + 223) + 223) + 1)), (28, AS.Fact.int (((id (X * 10 ^ m + numOf (t.extract 0 m).data.toList) : Nat) : Int)) (n + 223 + 223 + 1 + 1))]
theorem read1_any (s : ByteArray) (w : World) (hd : AllDig s.data.toList) (hl : s.size ≤ 10000) :
  Calls Tryz.prog 145 #[.string s, .func (.func 146) #[] #[]] w fun e w' => ∃ v, e = .returned v ∧ PInt (readL id 0 s.data.toList) (s.size + 500) v w' ∧ Below w.heap.size w w' := by
 have HDG := Lib.hid hd
 have HSL := Lib.hid hl
 clear hd hl
 go_enter Tryz.func145, Tryz.ntmps145
 go_wp2
 have nb4 := (Bx.new 25 w [.bool false, .slice none 0 0] lf2).alloc (.cells #[.bool false, .slice none 0 0] 25)
 have nb5 := Bx.new 25 (w.alloc (.cells #[.bool false, .slice none 0 0] 25)) [.bool false, .slice none 0 0] lf2
 rw [show (w.alloc (.cells #[.bool false, .slice none 0 0] 25)).heap.size = w.heap.size + 1 by simp] at nb5
 have nbel := below_a2 w (.cells #[.bool false, .slice none 0 0] 25) (.cells #[.bool false, .slice none 0 0] 25)
 change Code.wp Tryz.prog _ _ _ ((w.alloc (.cells #[.bool false, .slice none 0 0] 25)).alloc (.cells #[.bool false, .slice none 0 0] 25))
 generalize (w.alloc (.cells #[.bool false, .slice none 0 0] 25)).alloc (.cells #[.bool false, .slice none 0 0] 25) = W0 at *
 have B4 := Lib.hid nb4
 have B5 := Lib.hid nb5
 have HB := Lib.hid nbel
 clear nb4 nb5 nbel
 go_loopw [0] (fun v wr => ∃ t : ByteArray, v = .string t ∧ Hid (AllDig t.data.toList ∧ t.size ≤ s.size) ∧ Hid (Below w.heap.size w wr) ∧ Hid (Bx 25 wr w.heap.size [.bool false, .slice none 0 0]) ∧ ∃ (k : Bool) (A : Option Addr) (l c X n : Nat), Hid (Bx 25 wr (w.heap.size + 1) [.bool k, .slice A l c]) ∧ Hid (PInt (X : Int) n (.agg #[.bool k, .slice A l c]) wr) ∧ Hid (readL id X t.data.toList = readL id 0 s.data.toList) ∧ Hid (n + t.size ≤ s.size ∨ t.size = 0 ∧ n ≤ s.size + 500)) (fun v _ => match v with | .string t => t.size | _ => 0)
 case atStart => exact ⟨s, rfl, ⟨HDG.out, Nat.le_refl _⟩, HB.out, B4.out, false, none, 0, 0, 0, 0, B5.out, PInt.zero 0 _, rfl, .inl (by show 0 + s.size ≤ s.size; omega)⟩
 case round =>
  obtain ⟨t, rfl, hdt, hbl, b4, k, A, l, c, X, n, b5, HX, hrd, hbn⟩ := hrel
  clear B4 B5 HB
  rcases Nat.eq_zero_or_pos t.size with h0 | h0
  ·have hd0 : decide ((0 : Int) < ((t.size : Nat) : Int)) = false := by simp [h0]
   have ht0 : t.data.toList = [] := by rw [← List.length_eq_zero_iff]; rw [size_list]; exact h0
   have y0 := b5.out.cell 0
   have y1 := b5.out.cell 1
   have x0 := b4.out.cell 0
   have x1 := b4.out.cell 1
   have z0 := b4.out.frozen 0
   have z1 := b4.out.frozen 1
   simp only [List.getElem?_cons_zero, List.getElem?_cons_succ] at y0 y1 x0 x1
   go_wp2
   have hkeep := Keep.set (Keep.set (Keep.refl wr) b4.out 0 (Leaf.bool k)) (Bx.set b4.out 0 (Leaf.bool k)) 1 (Leaf.slice A l c)
   have hbel := (hbl.out.setCell (p := ⟨w.heap.size, 0, none⟩) (Nat.le_refl _) (.bool k)).setCell (p := ⟨w.heap.size, 1, none⟩) (Nat.le_refl _) (.slice A l c)
   have hx : PInt (readL id 0 s.data.toList) (s.size + 500) (.agg #[.bool k, .slice A l c]) wr := by
    rw [← hrd.out, ht0, readL_nil]; exact HX.out.more (by have := hbn.out; omega)
   refine bodyPost_ret (v := .agg #[.bool k, .slice A l c]) (by simp [results, Tryz.results145, go_sem, x0, x1]) rfl ⟨_, rfl, hx.kept hkeep, hbel⟩
  ·have hp : ((0 : Int) < ((t.size : Nat) : Int)) := by omega
   have hne : t.data.toList ≠ [] := by intro h; rw [← List.length_eq_zero_iff, size_list] at h; omega
   have hmn : min ((t.size : Nat) : Int) 1000 = ((min t.size 1000 : Nat) : Int) := by omega
   have HST := Lib.hid (readL_step id X hne)
   obtain ⟨m, hm⟩ : ∃ m, min t.size 1000 = m := ⟨_, rfl⟩
   rw [hm] at hmn
   have HMN := Lib.hid hm
   clear hm
   have hm1 : m ≤ 1000 := by rw [← HMN.out]; omega
   have hm2 : m ≤ t.size := by rw [← HMN.out]; omega
   have hz1 := fun wx => run_string_add_lists (P := Tryz.prog) wx [49] (List.replicate m 48) (by simp) (by simp; omega)
   have hpt := Lib.hid (fun W => readPart_any (⟨(49 :: List.replicate m 48).toArray⟩ : ByteArray) W (tenL_dig m) (by show (49 :: List.replicate m 48).toArray.size ≤ 2000; simp; omega))
   obtain ⟨x4_0, x4_1, s4⟩ := b4.out.d2
   obtain ⟨x5_0, x5_1, z5_0, z5_1, s5⟩ := b5.out.e2
   have szb := hbl.out.size
   go_wp2_with fail
   refine (rep_fact m wr (by omega)).mono ?_
   rintro e W1 ⟨rfl, hb⟩
   replace b4 := hup b4 hb
   replace b5 := hup b5 hb
   replace HX := Lib.hid (HX.out.kept (Keep.ofBelow hb))
   have nbel := below_then hbl.out hb hbl.out.size
   have HB2 := Lib.hid nbel
   clear nbel hbl hb x4_0 x4_1 x5_0 x5_1 z5_0 z5_1 szb s4 s5
   obtain ⟨x4_0, x4_1, s4⟩ := b4.out.d2
   obtain ⟨x5_0, x5_1, z5_0, z5_1, s5⟩ := b5.out.e2
   have szb := HB2.out.size
   go_wp2_with fail
   refine (hpt.out _).mono ?_
   rintro e W3 ⟨v, rfl, hv, hb⟩
   replace b4 := hup b4 hb
   replace b5 := hup b5 hb
   replace HX := Lib.hid (HX.out.kept (Keep.ofBelow hb))
   have nbel := below_then HB2.out hb HB2.out.size
   have HB4 := Lib.hid nbel
   clear nbel HB2 hb x4_0 x4_1 x5_0 x5_1 z5_0 z5_1 szb s4 s5
   obtain ⟨x4_0, x4_1, s4⟩ := b4.out.d2
   obtain ⟨x5_0, x5_1, z5_0, z5_1, s5⟩ := b5.out.e2
   have szb := HB4.out.size
   obtain ⟨k1, A1, l1, c1, rfl⟩ := hv.open
   have HP := Lib.hid hv
   clear hv
   go_upto_region 5 with (fail)
   have q5 := b4.out.lt
   have q6 := b5.out.lt
   change Code.wp Tryz.prog _ _ _ (W3.alloc (.cells #[.bool k1, .slice A1 l1 c1] 25))
   obtain ⟨nb7, na⟩ := new1 W3 25 [.bool k1, .slice A1 l1 c1] lf2
   have nb4 := b4.out.up na
   have nb5 := b5.out.up na
   have nkeep := Keep.ofBelow na
   have nbel := below_then HB4.out na HB4.out.size
   generalize W3.alloc (.cells #[.bool k1, .slice A1 l1 c1] 25) = W7 at *
   clear na x4_0 x4_1 x5_0 x5_1 z5_0 z5_1 szb s4 s5 b4 b5
   have b4 := Lib.hid nb4
   have b5 := Lib.hid nb5
   have b7 := Lib.hid nb7
   clear nb4 nb5 nb7
   replace HX := Lib.hid (HX.out.kept nkeep)
   replace HP := Lib.hid (HP.out.kept nkeep)
   clear nkeep
   have HB8 := Lib.hid nbel
   clear nbel HB4
   obtain ⟨x4_0, x4_1, s4⟩ := b4.out.d2
   obtain ⟨x5_0, x5_1, z5_0, z5_1, s5⟩ := b5.out.e2
   obtain ⟨x7_0, x7_1, s7⟩ := b7.out.d2
   have szb := HB8.out.size
   rw [show numOf (⟨(49 :: List.replicate m 48).toArray⟩ : ByteArray).data.toList = 10 ^ m from tenL_num m] at HP
   have hdx : AllDig (t.extract 0 m).data.toList := fun c hc => hdt.out.1 c (by rw [Lib.extract_data] at hc; exact List.mem_of_mem_take (by simpa using hc))
   have hlx : (t.extract 0 m).size ≤ 2000 := by rw [show (t.extract 0 m).size = min m t.size by simp]; omega
   have hnb : n ≤ 20000 := by have h8 := hbn.out; have h9 := HSL.out; have h10 := hdt.out.2; omega
   have HRP := Lib.hid (fun Wx => readPart_any (t.extract 0 m) Wx hdx hlx)
   clear hdx hlx
   refine AS.region_facts (read1FL t m X n) (JOne w W7 25 w.heap.size [.bool false, .slice none 0 0] (w.heap.size + 1)) [[], [], [], [20, 21], [], [], [23, 24], [25], [22, 26], [27, 19], [28]] [10] [[], [28]] [1, 0, 0, 1, 1, 1, 1, 1, 1, 1, 1] [] (fun u => by simp only [read1FL, AS.temps, List.map_cons, List.map_nil, fillL, List.setIfInBounds_toArray, List.set_cons_zero, List.set_cons_succ]; rfl) (by kernel_rfl) (by kernel_rfl) (JOne.st w W7 25 w.heap.size [.bool false, .slice none 0 0] (w.heap.size + 1)) (below_drew (Below.refl _ _)) ?_ ?_
   ·refine AS.sc rfl rfl rfl ?_ ?_
    ·intro k_ u w_ hk hJ hF K hK
     clear hF
     go_simp
     exact hK.out _ _ (Below.refl _ _) (rfl) trivial
    refine AS.sc rfl rfl rfl ?_ ?_
    ·intro k_ u w_ hk hJ hF K hK
     clear hF
     obtain rfl : k_ = 0 := Nat.le_zero.1 hk
     have hJ0 : Below W7.heap.size W7 w_ := hJ
     obtain ⟨y0, y1⟩ := ((b5.out).up hJ0).c2
     go_simp
     exact hK.out _ _ (Below.refl _ _) ((HX.out).kept (Keep.ofBelow hJ0)) trivial
    refine AS.sc rfl rfl rfl ?_ ?_
    ·intro k_ u w_ hk hJ hF K hK
     clear hF
     obtain rfl : k_ = 0 := Nat.le_zero.1 hk
     have hJ0 : Below W7.heap.size W7 w_ := hJ
     obtain ⟨y0, y1⟩ := ((b7.out).up hJ0).c2
     go_simp
     exact hK.out _ _ (Below.refl _ _) ((HP.out).kept (Keep.ofBelow hJ0)) trivial
    refine AS.sc rfl rfl rfl ?_ ?_
    ·intro k_ u w_ hk hJ hF K hK
     have h20 : PInt ((X : Int)) n (u 20) w_ := AS.facts_get hF 20 (by simp)
     have h21 : PInt (((10 ^ m : Nat) : Int)) 223 (u 21) w_ := AS.facts_get hF 21 (by simp)
     clear hF
     go_simp
     refine (mul_fact h20 h21 (by omega) (by omega)).mono ?_
     rintro e w' ⟨v, rfl, hv, hb⟩
     exact hK.out _ _ hb (hv) trivial
    refine AS.sc rfl rfl rfl ?_ ?_
    ·intro k_ u w_ hk hJ hF K hK
     clear hF
     go_simp
     exact hK.out _ _ (Below.refl _ _) (rfl) trivial
    refine AS.sc rfl rfl rfl ?_ ?_
    ·intro k_ u w_ hk hJ hF K hK
     clear hF
     go_simp
     exact hK.out _ _ (Below.refl _ _) (rfl) trivial
    refine AS.sc rfl rfl rfl ?_ ?_
    ·intro k_ u w_ hk hJ hF K hK
     have h23 : u 23 = .string t := AS.facts_get hF 23 (by simp)
     have h24 : u 24 = .int .i64 (m : Int) := AS.facts_get hF 24 (by simp)
     clear hF
     simp only [h23, h24] at hK ⊢
     clear h23 h24
     go_simp
     exact hK.out _ _ (Below.refl _ _) (rfl) trivial
    refine AS.sc rfl rfl rfl ?_ ?_
    ·intro k_ u w_ hk hJ hF K hK
     have h25 : u 25 = .string (t.extract 0 m) := AS.facts_get hF 25 (by simp)
     clear hF
     simp only [h25] at hK ⊢
     clear h25
     go_simp
     refine (HRP.out _).mono ?_
     rintro e w' ⟨v, rfl, hv, hb⟩
     exact hK.out _ _ hb (hv) trivial
    refine AS.sc rfl rfl rfl ?_ ?_
    ·intro k_ u w_ hk hJ hF K hK
     have h22 : PInt (((X : Int)) * (((10 ^ m : Nat) : Int))) (n + 223) (u 22) w_ := AS.facts_get hF 22 (by simp)
     have h26 : PInt (((numOf (t.extract 0 m).data.toList : Nat) : Int)) 223 (u 26) w_ := AS.facts_get hF 26 (by simp)
     clear hF
     go_simp
     refine (add_fact h22 h26 (by omega) (by omega)).mono ?_
     rintro e w' ⟨v, rfl, hv, hb⟩
     exact hK.out _ _ hb (hv) trivial
    refine AS.sc rfl rfl rfl ?_ ?_
    ·intro k_ u w_ hk hJ hF K hK
     have h27 : PInt ((((X : Int)) * (((10 ^ m : Nat) : Int))) + (((numOf (t.extract 0 m).data.toList : Nat) : Int))) (((n + 223) + 223) + 1) (u 27) w_ := AS.facts_get hF 27 (by simp)
     have h19 : u 19 = .func (.func 146) #[] #[] := AS.facts_get hF 19 (by simp)
     clear hF
     simp only [h19] at hK ⊢
     clear h19
     go_simp
     refine (shrink1_fact h27).mono ?_
     rintro e w' ⟨v, rfl, hv, hb⟩
     exact hK.out _ _ hb (by rw [read_cast] at hv; exact hv) trivial
    refine AS.ss rfl rfl ?_ ?_
    ·intro u w_ hJ hAp hF K hK
     have h28 : PInt (((id (X * 10 ^ m + numOf (t.extract 0 m).data.toList) : Nat) : Int)) (n + 223 + 223 + 1 + 1) (u 28) w_ := AS.facts_get hF 28 (by simp)
     clear hF
     obtain ⟨k2, A2, l2, c2, e_⟩ := h28.open
     have hJ0 : Below W7.heap.size W7 w_ := hJ
     have bx := b5.out.up hJ0
     have ob4 := b4.out.up hJ0
     have hbel := below_then HB8.out hJ0 HB8.out.size
     have hsz : w.heap.size ≤ w_.heap.size := hbel.size
     have y0 := bx.cell 0
     have y1 := bx.cell 1
     have z0 := bx.frozen 0
     have z1 := bx.frozen 1
     simp only [List.getElem?_cons_zero, List.getElem?_cons_succ] at y0 y1
     simp only [e_] at hK ⊢
     go_simp
     exact hK.out undef _ ⟨⟨(hbel.setCell (p := ⟨w.heap.size + 1, 0, none⟩) (Nat.le_succ _) (.bool k2)).setCell (p := ⟨w.heap.size + 1, 1, none⟩) (Nat.le_succ _) (.slice A2 l2 c2), by simp only [setCell_size]; exact hsz⟩, Bx.far (Bx.far ob4 (by omega) 0 (.bool k2)) (by omega) 1 (.slice A2 l2 c2), [.bool k2, .slice A2 l2 c2], by simp [e_], Bx.set (Bx.set bx 0 (Leaf.bool k2)) 1 (Leaf.slice A2 l2 c2)⟩ (Keep.set2 (Keep.refl w_) bx (Leaf.bool k2) (Leaf.slice A2 l2 c2))
    exact AS.StepsOk.nil
   ·intro u W9 hJ9 hF
    have h28 : PInt (((id (X * 10 ^ m + numOf (t.extract 0 m).data.toList) : Nat) : Int)) (n + 223 + 223 + 1 + 1) (u 28) W9 := AS.facts_get hF 28 (by simp [read1FL, AS.temps])
    clear hF
    obtain ⟨⟨hbel, hsz⟩, hb4, vs, hvs, hb5⟩ := hJ9
    obtain ⟨k3, A3, l3, c3, ea⟩ := h28.open
    rw [ea] at h28
    obtain rfl : vs = [.bool k3, .slice A3 l3 c3] := by
     have e1 := (List.cons.inj hvs).1
     rw [show u 28 = _ from ea] at e1
     have e2 := congrArg Array.toList (Value.agg.inj e1)
     simpa using e2.symm
    have H4 := Lib.hid hb4
    have H5 := Lib.hid hb5
    have HX2 := Lib.hid h28
    have HBL := Lib.hid hbel
    clear hvs hb4 hb5 h28 hbel
    go_wp2
    have hsx : (t.extract m t.size).size = t.size - m := by simp
    refine ⟨⟨t.extract m t.size, rfl, ⟨fun c hc => hdt.out.1 c (by rw [Lib.extract_to_end] at hc; exact List.mem_of_mem_drop hc), ?_⟩, HBL.out, H4.out, k3, A3, l3, c3, _, _, H5.out, HX2.out, ?_, ?_⟩, ?_⟩
    ·have := hdt.out.2; omega
    ·show readL id _ (t.extract m t.size).data.toList = _
     rw [Lib.extract_to_end, ← hrd.out, HST.out]
     have e1 : min t.data.toList.length 1000 = m := by rw [size_list]; exact HMN.out
     rw [e1]
     have e2 : (t.extract 0 m).data.toList = t.data.toList.take m := by rw [Lib.extract_data]; simp
     rw [e2]
    ·show _ + (t.extract m t.size).size ≤ s.size ∨ (t.extract m t.size).size = 0 ∧ _ ≤ s.size + 500
     rw [hsx]
     have h8 := hbn.out
     have h9 := HMN.out
     have h10 := hdt.out.2
     omega
    ·show (t.extract m t.size).size < t.size
     have h9 := HMN.out
     omega
end Go.Proofs.YtgihmikeapbpkaaGreatDoor
