/- Contracts and the law of RationalOrder, part 1: what was proved of each, callees first. -/
import Derived.Test.YtgihmikeapbpkaaGreatDoorK10
namespace Go.Proofs.YtgihmikeapbpkaaGreatDoor
open Go.RowKit
theorem sub_terms (x y : Rat) : x + -y = x - y := (Rat.sub_eq_add_neg x y).symm
def cmpQ (x y : Rat) : Int := if x < y then -1 else if x = y then 0 else 1
theorem cmp_terms (x y : Rat) : cmpI (x.num * y.den) (y.num * x.den) = cmpQ x y := by
 unfold cmpI cmpQ
 simp only [Rat.lt_iff, Rat.eq_iff_mul_eq_mul]
theorem sign_terms (x : Rat) : cmpI x.num 0 = cmpQ x 0 := by
 have h := cmp_terms x 0
 simpa using h
open AS (Keep NoInt)
section
variable {t : TypeId} {w w' : World} {g : Nat} {vs : List Value}
end
theorem PRat.more {x : Rat} {n m : Nat} {v : Value} {w : World} (h : PRat x n v w) (hm : n ≤ m) : PRat x m v w := by
 obtain ⟨p, q, k, A, l, c, k', A', l', c', rfl, h1, h2, h3⟩ := h
 exact ⟨p, q, k, A, l, c, k', A', l', c', rfl, h1.more hm, h2.more hm, h3⟩
open Go.RowKit
open AS (Keep NoInt)
set_option maxRecDepth 20000 in
set_option maxHeartbeats 3200000 in
theorem copied_fact {z : Int} {n : Nat} {a : Value} {w : World} (h1 : PInt z n a w) (hn : n ≤ 400000) :
  Calls Tryz.prog 71 #[a] w fun e w' => ∃ v, e = .returned v ∧ PInt z (n + 1) v w' ∧ Below w.heap.size w w' := by
 obtain ⟨k, A, l, c, rfl⟩ := h1.open
 have H1 := Lib.hid h1
 clear h1
 go_enter Tryz.func71, Tryz.ntmps71
 go_upto_region 1 with (fail)
 change Code.wp Tryz.prog _ _ _ ((w.alloc (.cells #[.bool k, .slice A l c] 25)).alloc (.cells #[.bool false, .slice none 0 0] 25))
 obtain ⟨nb1, nb2, na⟩ := new2 w 25 [.bool k, .slice A l c] 25 [.bool false, .slice none 0 0] lf2 lf2
 have nkeep := Keep.ofBelow na
 have nbel := na
 generalize (w.alloc (.cells #[.bool k, .slice A l c] 25)).alloc (.cells #[.bool false, .slice none 0 0] 25) = W1 at *
 clear na
 have b1 := Lib.hid nb1
 have b2 := Lib.hid nb2
 clear nb1 nb2
 replace H1 := Lib.hid (H1.out.kept nkeep)
 clear nkeep
 have HB2 := Lib.hid nbel
 clear nbel
 obtain ⟨x10, x11, s1⟩ := b1.out.d2
 obtain ⟨x20, x21, z20, z21, s2⟩ := b2.out.e2
 have szb := HB2.out.size
 go_wp2_with fail
 refine (add_fact H1.out (PInt.zero 0 _) (by omega) (by omega)).mono ?_
 rintro e W3 ⟨v, rfl, hv, hb⟩
 replace b1 := hup b1 hb
 replace b2 := hup b2 hb
 replace H1 := Lib.hid (H1.out.kept (Keep.ofBelow hb))
 have nbel := below_then HB2.out hb HB2.out.size
 have HB4 := Lib.hid nbel
 clear nbel HB2 hb x10 x11 x20 x21 z20 z21 szb s1 s2
 obtain ⟨x10, x11, s1⟩ := b1.out.d2
 obtain ⟨x20, x21, z20, z21, s2⟩ := b2.out.e2
 have szb := HB4.out.size
 obtain ⟨k1, A1, l1, c1, rfl⟩ := hv.open
 have HV := Lib.hid hv
 clear hv
 go_wp2_with fail
 have hkeep := (Keep.set2 (Keep.refl W3) b2.out (Leaf.bool k1) (Leaf.slice A1 l1 c1))
 have hbel := (Below.set2 (g := w.heap.size + 1) HB4.out (by first | omega | (simp; done) | (simp; omega)) (.bool k1) (.slice A1 l1 c1))
 refine bodyPost_ret (v := .agg #[.bool k1, .slice A1 l1 c1]) (by simp [results, Tryz.results71, go_sem, x20, x21]) rfl ⟨_, rfl, by have h := HV.out.kept hkeep; simpa using h, hbel⟩
def ratNegFL (x : Rat) (n : Nat) : List (Nat × AS.Fact) := [(10, AS.Fact.int (x.num) n), (11, AS.Fact.int (-(x.num)) n), (12, AS.Fact.int ((x.den : Int)) n), (13, AS.Fact.int ((x.den : Int)) (n + 1)), (14, AS.Fact.rat (-x) (n + 1))]
set_option maxRecDepth 20000 in
set_option maxHeartbeats 3200000 in
theorem ratNeg_fact {x : Rat} {n : Nat} {v : Value} {w : World} (h : PRat x n v w) (hn3 : 3 ≤ n) (hn : n ≤ 10000) :
  Calls Tryz.prog 24 #[v] w fun e w' => ∃ v, e = .returned v ∧ PRat (-x) (n + 1) v w' ∧ Below w.heap.size w w' := by
 obtain ⟨k, A, l, c, k', A', l', c', rfl⟩ := h.open
 have H1 := Lib.hid h
 clear h
 go_enter Tryz.func24, Tryz.ntmps24
 go_upto_region 1 with (fail)
 change Code.wp Tryz.prog _ _ _ ((w.alloc (.cells #[.bool k, .slice A l c, .bool k', .slice A' l' c'] 27)).alloc (.cells #[.bool false, .slice none 0 0, .bool false, .slice none 0 0] 27))
 obtain ⟨nb1, nb2, na⟩ := new2 w 27 [.bool k, .slice A l c, .bool k', .slice A' l' c'] 27 [.bool false, .slice none 0 0, .bool false, .slice none 0 0] lf4 lf4
 have nkeep := Keep.ofBelow na
 have nbel := na
 generalize (w.alloc (.cells #[.bool k, .slice A l c, .bool k', .slice A' l' c'] 27)).alloc (.cells #[.bool false, .slice none 0 0, .bool false, .slice none 0 0] 27) = W1 at *
 clear na
 have b1 := Lib.hid nb1
 have b2 := Lib.hid nb2
 clear nb1 nb2
 replace H1 := Lib.hid (H1.out.kept nkeep)
 clear nkeep
 have HB2 := Lib.hid nbel
 clear nbel
 obtain ⟨x1_0, x1_1, x1_2, x1_3, s1⟩ := b1.out.d4
 obtain ⟨x2_0, x2_1, x2_2, x2_3, s2⟩ := b2.out.d4
 have szb := HB2.out.size
 go_wp2_with fail
 refine (terms_fact H1.out hn3).mono ?_
 rintro e W3 ⟨k1, A1, l1, c1, j1, B1, o1, e1, rfl, ha_, hc_, hb⟩
 replace b1 := hup b1 hb
 replace b2 := hup b2 hb
 replace H1 := Lib.hid (H1.out.kept (Keep.ofBelow hb))
 have nbel := below_then HB2.out hb HB2.out.size
 have HB4 := Lib.hid nbel
 clear nbel HB2 hb x1_0 x1_1 x1_2 x1_3 x2_0 x2_1 x2_2 x2_3 szb s1 s2
 obtain ⟨x1_0, x1_1, x1_2, x1_3, s1⟩ := b1.out.d4
 obtain ⟨x2_0, x2_1, x2_2, x2_3, s2⟩ := b2.out.d4
 have szb := HB4.out.size
 have HA := Lib.hid ha_
 have HB := Lib.hid hc_
 clear ha_ hc_
 go_upto_region 2 with (fail)
 have q5 := b1.out.lt
 have q6 := b2.out.lt
 change Code.wp Tryz.prog _ _ _ ((W3.alloc (.cells #[.bool k1, .slice A1 l1 c1] 25)).alloc (.cells #[.bool j1, .slice B1 o1 e1] 25))
 obtain ⟨nb3, nb4, na⟩ := new2 W3 25 [.bool k1, .slice A1 l1 c1] 25 [.bool j1, .slice B1 o1 e1] lf2 lf2
 have nb1 := b1.out.up na
 have nb2 := b2.out.up na
 have nkeep := Keep.ofBelow na
 have nbel := below_then HB4.out na HB4.out.size
 generalize (W3.alloc (.cells #[.bool k1, .slice A1 l1 c1] 25)).alloc (.cells #[.bool j1, .slice B1 o1 e1] 25) = W7 at *
 clear na x1_0 x1_1 x1_2 x1_3 x2_0 x2_1 x2_2 x2_3 szb s1 s2 b1 b2
 have b1 := Lib.hid nb1
 have b2 := Lib.hid nb2
 have b3 := Lib.hid nb3
 have b4 := Lib.hid nb4
 clear nb1 nb2 nb3 nb4
 replace H1 := Lib.hid (H1.out.kept nkeep)
 replace HA := Lib.hid (HA.out.kept nkeep)
 replace HB := Lib.hid (HB.out.kept nkeep)
 clear nkeep
 have HB8 := Lib.hid nbel
 clear nbel HB4
 obtain ⟨x1_0, x1_1, x1_2, x1_3, s1⟩ := b1.out.d4
 obtain ⟨x2_0, x2_1, x2_2, x2_3, s2⟩ := b2.out.d4
 obtain ⟨x3_0, x3_1, s3⟩ := b3.out.d2
 obtain ⟨x4_0, x4_1, s4⟩ := b4.out.d2
 have szb := HB8.out.size
 refine AS.region_facts (ratNegFL x n) (JRes w W7 27 (w.heap.size + 1)) [[], [10], [], [12], [11, 13], [14]] [5] [[], [14]] [0, 1, 0, 1, 1, 1] [] (fun u => by simp only [ratNegFL, AS.temps, List.map_cons, List.map_nil, fillL, List.setIfInBounds_toArray, List.set_cons_zero, List.set_cons_succ]; rfl) (by kernel_rfl) (by kernel_rfl) (JRes.st w W7 27 (w.heap.size + 1)) (below_drew (Below.refl _ _)) ?_ ?_
 ·refine AS.sc rfl rfl rfl ?_ ?_
  ·intro k_ u w_ hk hJ hF K hK
   clear hF
   obtain rfl : k_ = 0 := Nat.le_zero.1 hk
   have hJ0 : Below W7.heap.size W7 w_ := hJ
   obtain ⟨y0, y1⟩ := ((b3.out).up hJ0).c2
   go_simp
   exact hK.out _ _ (Below.refl _ _) ((HA.out).kept (Keep.ofBelow hJ0)) trivial
  refine AS.sc rfl rfl rfl ?_ ?_
  ·intro k_ u w_ hk hJ hF K hK
   have h10 : PInt (x.num) n (u 10) w_ := AS.facts_get hF 10 (by simp)
   clear hF
   go_simp
   refine (neg_fact h10 (by omega)).mono ?_
   rintro e w' ⟨v, rfl, hv, hb⟩
   exact hK.out _ _ hb (hv) trivial
  refine AS.sc rfl rfl rfl ?_ ?_
  ·intro k_ u w_ hk hJ hF K hK
   clear hF
   obtain rfl : k_ = 0 := Nat.le_zero.1 hk
   have hJ0 : Below W7.heap.size W7 w_ := hJ
   obtain ⟨y0, y1⟩ := ((b4.out).up hJ0).c2
   go_simp
   exact hK.out _ _ (Below.refl _ _) ((HB.out).kept (Keep.ofBelow hJ0)) trivial
  refine AS.sc rfl rfl rfl ?_ ?_
  ·intro k_ u w_ hk hJ hF K hK
   have h12 : PInt ((x.den : Int)) n (u 12) w_ := AS.facts_get hF 12 (by simp)
   clear hF
   go_simp
   refine (copied_fact h12 (by omega)).mono ?_
   rintro e w' ⟨v, rfl, hv, hb⟩
   exact hK.out _ _ hb (hv) trivial
  refine AS.sc rfl rfl rfl ?_ ?_
  ·intro k_ u w_ hk hJ hF K hK
   have h11 : PInt (-(x.num)) n (u 11) w_ := AS.facts_get hF 11 (by simp)
   have h13 : PInt ((x.den : Int)) (n + 1) (u 13) w_ := AS.facts_get hF 13 (by simp)
   clear hF
   obtain ⟨ka, Aa, la, ca, ea⟩ := h11.open
   obtain ⟨kb, Ab, lb, cb, eb⟩ := h13.open
   rw [ea] at h11
   rw [eb] at h13
   simp only [ea, eb] at hK ⊢
   go_simp
   exact hK.out _ _ (Below.refl _ _) (PRat.mk (h11.more (by omega)) h13 rfl rfl) trivial
  refine AS.ss rfl rfl ?_ ?_
  ·intro u w_ hJ hAp hF K hK
   have h14 : PRat (-x) (n + 1) (u 14) w_ := AS.facts_get hF 14 (by simp)
   clear hF
   obtain ⟨k1, A1, l1, c1, k2, A2, l2, c2, e_⟩ := h14.open
   have hJ0 : Below W7.heap.size W7 w_ := hJ
   have bx := (b2.out).up hJ0
   have hbel := below_then HB8.out hJ0 HB8.out.size
   have y0 := bx.cell 0
   have z0 := bx.frozen 0
   have y1 := bx.cell 1
   have z1 := bx.frozen 1
   have y2 := bx.cell 2
   have z2 := bx.frozen 2
   have y3 := bx.cell 3
   have z3 := bx.frozen 3
   simp only [List.getElem?_cons_zero, List.getElem?_cons_succ] at y0 y1 y2 y3
   simp only [e_] at hK ⊢
   go_simp
   exact hK.out undef _ ⟨⟨(Below.setCell (p := ⟨w.heap.size + 1, 3, none⟩) (Below.setCell (p := ⟨w.heap.size + 1, 2, none⟩) (Below.set2 (g := w.heap.size + 1) hbel (by first | omega | (simp; done) | (simp; omega)) (.bool k1) (.slice A1 l1 c1)) (by first | omega | (simp; done) | (simp; omega)) (.bool k2)) (by first | omega | (simp; done) | (simp; omega)) (.slice A2 l2 c2)), (by simp only [setCell_size]; first | exact hsz | exact Nat.le_trans HB8.out.size hJ0.size)⟩, [.bool k1, .slice A1 l1 c1, .bool k2, .slice A2 l2 c2], by simp [e_], (Bx.set4 bx (Leaf.bool k1) (Leaf.slice A1 l1 c1) (Leaf.bool k2) (Leaf.slice A2 l2 c2))⟩ (Keep.set4 (Keep.refl w_) bx (Leaf.bool k1) (Leaf.slice A1 l1 c1) (Leaf.bool k2) (Leaf.slice A2 l2 c2))
  exact AS.StepsOk.nil
 ·intro u W9 hJ9 hF
  have h14 : PRat (-x) (n + 1) (u 14) W9 := AS.facts_get hF 14 (by simp [ratNegFL, AS.temps])
  clear hF
  obtain ⟨⟨hbel, -⟩, vs, hvs, hbx⟩ := hJ9
  obtain ⟨ka, Aa, la, ca, kb, Ab, lb, cb, ea⟩ := h14.open
  rw [ea] at h14
  obtain rfl : vs = [.bool ka, .slice Aa la ca, .bool kb, .slice Ab lb cb] := by
   have e1 := (List.cons.inj hvs).1
   rw [show u 14 = _ from ea] at e1
   have e2 := congrArg Array.toList (Value.agg.inj e1)
   simpa using e2.symm
  have y0 := hbx.cell 0
  have y1 := hbx.cell 1
  have y2 := hbx.cell 2
  have y3 := hbx.cell 3
  simp only [List.getElem?_cons_zero, List.getElem?_cons_succ] at y0 y1 y2 y3
  go_wp2_with fail
  refine bodyPost_ret (v := .agg #[.bool ka, .slice Aa la ca, .bool kb, .slice Ab lb cb]) (by simp [results, Tryz.results24, go_sem, y0, y1, y2, y3]) rfl ⟨_, rfl, h14, hbel⟩
def ratSubFL (x y : Rat) (n : Nat) : List (Nat × AS.Fact) := [(5, AS.Fact.rat (x) n), (6, AS.Fact.rat (y) n), (7, AS.Fact.rat (-y) (n + 1)), (8, AS.Fact.rat (x - y) (4 * n + 6))]
set_option maxRecDepth 20000 in
set_option maxHeartbeats 3200000 in
theorem ratSub_fact {x y : Rat} {n : Nat} {v v2 : Value} {w : World} (h : PRat x n v w) (h2 : PRat y n v2 w) (hn3 : 3 ≤ n) (hn : n ≤ 9000) :
  Calls Tryz.prog 22 #[v, v2] w fun e w' => ∃ v, e = .returned v ∧ PRat (x - y) (4 * n + 6) v w' ∧ Below w.heap.size w w' := by
 obtain ⟨k, A, l, c, k', A', l', c', rfl⟩ := h.open
 obtain ⟨r, E, m, d, r', E', m', d', rfl⟩ := h2.open
 have H1 := Lib.hid h
 have H2 := Lib.hid h2
 clear h h2
 go_enter Tryz.func22, Tryz.ntmps22
 go_upto_region 1 with (fail)
 change Code.wp Tryz.prog _ _ _ (((w.alloc (.cells #[.bool k, .slice A l c, .bool k', .slice A' l' c'] 27)).alloc (.cells #[.bool r, .slice E m d, .bool r', .slice E' m' d'] 27)).alloc (.cells #[.bool false, .slice none 0 0, .bool false, .slice none 0 0] 27))
 obtain ⟨nb2, nb3, nb4, na⟩ := new3 w 27 [.bool k, .slice A l c, .bool k', .slice A' l' c'] 27 [.bool r, .slice E m d, .bool r', .slice E' m' d'] 27 [.bool false, .slice none 0 0, .bool false, .slice none 0 0] lf4 lf4 lf4
 have nkeep := Keep.ofBelow na
 have nbel := na
 generalize ((w.alloc (.cells #[.bool k, .slice A l c, .bool k', .slice A' l' c'] 27)).alloc (.cells #[.bool r, .slice E m d, .bool r', .slice E' m' d'] 27)).alloc (.cells #[.bool false, .slice none 0 0, .bool false, .slice none 0 0] 27) = W1 at *
 clear na
 have b2 := Lib.hid nb2
 have b3 := Lib.hid nb3
 have b4 := Lib.hid nb4
 clear nb2 nb3 nb4
 replace H1 := Lib.hid (H1.out.kept nkeep)
 replace H2 := Lib.hid (H2.out.kept nkeep)
 clear nkeep
 have HB2 := Lib.hid nbel
 clear nbel
 obtain ⟨x2_0, x2_1, x2_2, x2_3, s2⟩ := b2.out.d4
 obtain ⟨x3_0, x3_1, x3_2, x3_3, s3⟩ := b3.out.d4
 obtain ⟨x4_0, x4_1, x4_2, x4_3, s4⟩ := b4.out.d4
 have szb := HB2.out.size
 refine AS.region_facts (ratSubFL x y n) (JRes w W1 27 (w.heap.size + 1 + 1)) [[], [], [6], [5, 7], [8]] [4] [[], [8]] [0, 0, 1, 1, 1] [] (fun u => by simp only [ratSubFL, AS.temps, List.map_cons, List.map_nil, fillL, List.setIfInBounds_toArray, List.set_cons_zero, List.set_cons_succ]; rfl) (by kernel_rfl) (by kernel_rfl) (JRes.st w W1 27 (w.heap.size + 1 + 1)) (below_drew (Below.refl _ _)) ?_ ?_
 ·refine AS.sc rfl rfl rfl ?_ ?_
  ·intro k_ u w_ hk hJ hF K hK
   clear hF
   obtain rfl : k_ = 0 := Nat.le_zero.1 hk
   have hJ0 : Below W1.heap.size W1 w_ := hJ
   obtain ⟨y0, y1, y2, y3⟩ := ((b2.out).up hJ0).c4
   go_simp
   exact hK.out _ _ (Below.refl _ _) ((H1.out).kept (Keep.ofBelow hJ0)) trivial
  refine AS.sc rfl rfl rfl ?_ ?_
  ·intro k_ u w_ hk hJ hF K hK
   clear hF
   obtain rfl : k_ = 0 := Nat.le_zero.1 hk
   have hJ0 : Below W1.heap.size W1 w_ := hJ
   obtain ⟨y0, y1, y2, y3⟩ := ((b3.out).up hJ0).c4
   go_simp
   exact hK.out _ _ (Below.refl _ _) ((H2.out).kept (Keep.ofBelow hJ0)) trivial
  refine AS.sc rfl rfl rfl ?_ ?_
  ·intro k_ u w_ hk hJ hF K hK
   have h6 : PRat (y) n (u 6) w_ := AS.facts_get hF 6 (by simp)
   clear hF
   go_simp
   refine (ratNeg_fact h6 hn3 (by omega)).mono ?_
   rintro e w' ⟨v, rfl, hv, hb⟩
   exact hK.out _ _ hb (hv) trivial
  refine AS.sc rfl rfl rfl ?_ ?_
  ·intro k_ u w_ hk hJ hF K hK
   have h5 : PRat (x) n (u 5) w_ := AS.facts_get hF 5 (by simp)
   have h7 : PRat (-y) (n + 1) (u 7) w_ := AS.facts_get hF 7 (by simp)
   clear hF
   go_simp
   refine (ratAdd_fact (h5.more (Nat.le_succ n)) h7 (by omega) (by omega)).mono ?_
   rintro e w' ⟨v, rfl, hv, hb⟩
   exact hK.out _ _ hb (by rw [sub_terms] at hv; exact hv.more (by omega)) trivial
  refine AS.ss rfl rfl ?_ ?_
  ·intro u w_ hJ hAp hF K hK
   have h8 : PRat (x - y) (4 * n + 6) (u 8) w_ := AS.facts_get hF 8 (by simp)
   clear hF
   obtain ⟨k1, A1, l1, c1, k2, A2, l2, c2, e_⟩ := h8.open
   have hJ0 : Below W1.heap.size W1 w_ := hJ
   have bx := (b4.out).up hJ0
   have hbel := below_then HB2.out hJ0 HB2.out.size
   have y0 := bx.cell 0
   have z0 := bx.frozen 0
   have y1 := bx.cell 1
   have z1 := bx.frozen 1
   have y2 := bx.cell 2
   have z2 := bx.frozen 2
   have y3 := bx.cell 3
   have z3 := bx.frozen 3
   simp only [List.getElem?_cons_zero, List.getElem?_cons_succ] at y0 y1 y2 y3
   simp only [e_] at hK ⊢
   go_simp
   exact hK.out undef _ ⟨⟨(Below.setCell (p := ⟨w.heap.size + 1 + 1, 3, none⟩) (Below.setCell (p := ⟨w.heap.size + 1 + 1, 2, none⟩) (Below.set2 (g := w.heap.size + 1 + 1) hbel (by first | omega | (simp; done) | (simp; omega)) (.bool k1) (.slice A1 l1 c1)) (by first | omega | (simp; done) | (simp; omega)) (.bool k2)) (by first | omega | (simp; done) | (simp; omega)) (.slice A2 l2 c2)), (by simp only [setCell_size]; first | exact hsz | exact Nat.le_trans HB2.out.size hJ0.size)⟩, [.bool k1, .slice A1 l1 c1, .bool k2, .slice A2 l2 c2], by simp [e_], (Bx.set4 bx (Leaf.bool k1) (Leaf.slice A1 l1 c1) (Leaf.bool k2) (Leaf.slice A2 l2 c2))⟩ (Keep.set4 (Keep.refl w_) bx (Leaf.bool k1) (Leaf.slice A1 l1 c1) (Leaf.bool k2) (Leaf.slice A2 l2 c2))
  exact AS.StepsOk.nil
 ·intro u W3 hJ9 hF
  have h8 : PRat (x - y) (4 * n + 6) (u 8) W3 := AS.facts_get hF 8 (by simp [ratSubFL, AS.temps])
  clear hF
  obtain ⟨⟨hbel, -⟩, vs, hvs, hbx⟩ := hJ9
  obtain ⟨ka, Aa, la, ca, kb, Ab, lb, cb, ea⟩ := h8.open
  rw [ea] at h8
  obtain rfl : vs = [.bool ka, .slice Aa la ca, .bool kb, .slice Ab lb cb] := by
   have e1 := (List.cons.inj hvs).1
   rw [show u 8 = _ from ea] at e1
   have e2 := congrArg Array.toList (Value.agg.inj e1)
   simpa using e2.symm
  have y0 := hbx.cell 0
  have y1 := hbx.cell 1
  have y2 := hbx.cell 2
  have y3 := hbx.cell 3
  simp only [List.getElem?_cons_zero, List.getElem?_cons_succ] at y0 y1 y2 y3
  go_wp2_with fail
  refine bodyPost_ret (v := .agg #[.bool ka, .slice Aa la ca, .bool kb, .slice Ab lb cb]) (by simp [results, Tryz.results22, go_sem, y0, y1, y2, y3]) rfl ⟨_, rfl, h8, hbel⟩
def ratCmpFL (x y : Rat) (n : Nat) : List (Nat × AS.Fact) := [(19, AS.Fact.int (x.num) n), (20, AS.Fact.int ((y.den : Int)) n), (21, AS.Fact.int ((x.num) * ((y.den : Int))) (n + n)), (22, AS.Fact.int (y.num) n), (23, AS.Fact.int ((x.den : Int)) n), (24, AS.Fact.int ((y.num) * ((x.den : Int))) (n + n)), (25, AS.Fact.is (.int .i64 (cmpI ((x.num) * ((y.den : Int))) ((y.num) * ((x.den : Int)))))), (4, AS.Fact.is (.int .i64 (cmpI ((x.num) * ((y.den : Int))) ((y.num) * ((x.den : Int))))))]
set_option maxRecDepth 20000 in
set_option maxHeartbeats 3200000 in
theorem ratCmp_fact {x y : Rat} {n : Nat} {v v2 : Value} {w : World} (h : PRat x n v w) (h2 : PRat y n v2 w) (hn3 : 3 ≤ n) (hn : n ≤ 10000) :
  Calls Tryz.prog 26 #[v, v2] w fun e w' => e = .returned (.int .i64 (cmpQ x y)) ∧ Below w.heap.size w w' := by
 obtain ⟨k, A, l, c, k', A', l', c', rfl⟩ := h.open
 obtain ⟨r, E, m, d, r', E', m', d', rfl⟩ := h2.open
 have H1 := Lib.hid h
 have H2 := Lib.hid h2
 clear h h2
 go_enter Tryz.func26, Tryz.ntmps26
 go_upto_region 1 with (fail)
 change Code.wp Tryz.prog _ _ _ ((w.alloc (.cells #[.bool k, .slice A l c, .bool k', .slice A' l' c'] 27)).alloc (.cells #[.bool r, .slice E m d, .bool r', .slice E' m' d'] 27))
 obtain ⟨nb2, nb3, na⟩ := new2 w 27 [.bool k, .slice A l c, .bool k', .slice A' l' c'] 27 [.bool r, .slice E m d, .bool r', .slice E' m' d'] lf4 lf4
 have nkeep := Keep.ofBelow na
 have nbel := na
 generalize (w.alloc (.cells #[.bool k, .slice A l c, .bool k', .slice A' l' c'] 27)).alloc (.cells #[.bool r, .slice E m d, .bool r', .slice E' m' d'] 27) = W1 at *
 clear na
 have b2 := Lib.hid nb2
 have b3 := Lib.hid nb3
 clear nb2 nb3
 replace H1 := Lib.hid (H1.out.kept nkeep)
 replace H2 := Lib.hid (H2.out.kept nkeep)
 clear nkeep
 have HB2 := Lib.hid nbel
 clear nbel
 obtain ⟨x20, x21, x22, x23, s2⟩ := b2.out.d4
 obtain ⟨x30, x31, x32, x33, s3⟩ := b3.out.d4
 have szb := HB2.out.size
 go_wp2_with fail
 refine (terms_fact H1.out hn3).mono ?_
 rintro e W3 ⟨k1, A1, l1, c1, j1, B1, o1, e1, rfl, ha_, hc_, hb⟩
 replace b2 := hup b2 hb
 replace b3 := hup b3 hb
 replace H1 := Lib.hid (H1.out.kept (Keep.ofBelow hb))
 replace H2 := Lib.hid (H2.out.kept (Keep.ofBelow hb))
 have nbel := below_then HB2.out hb HB2.out.size
 have HB4 := Lib.hid nbel
 clear nbel HB2 hb x20 x21 x22 x23 x30 x31 x32 x33 szb s2 s3
 obtain ⟨x20, x21, x22, x23, s2⟩ := b2.out.d4
 obtain ⟨x30, x31, x32, x33, s3⟩ := b3.out.d4
 have szb := HB4.out.size
 have HA := Lib.hid ha_
 have HB := Lib.hid hc_
 clear ha_ hc_
 go_upto_region 2 with (fail)
 have q5 := b2.out.lt
 have q6 := b3.out.lt
 change Code.wp Tryz.prog _ _ _ ((W3.alloc (.cells #[.bool k1, .slice A1 l1 c1] 25)).alloc (.cells #[.bool j1, .slice B1 o1 e1] 25))
 obtain ⟨nb5, nb6, na⟩ := new2 W3 25 [.bool k1, .slice A1 l1 c1] 25 [.bool j1, .slice B1 o1 e1] lf2 lf2
 have nb2 := b2.out.up na
 have nb3 := b3.out.up na
 have nkeep := Keep.ofBelow na
 have nbel := below_then HB4.out na HB4.out.size
 generalize (W3.alloc (.cells #[.bool k1, .slice A1 l1 c1] 25)).alloc (.cells #[.bool j1, .slice B1 o1 e1] 25) = W7 at *
 clear na x20 x21 x22 x23 x30 x31 x32 x33 szb s2 s3 b2 b3
 have b2 := Lib.hid nb2
 have b3 := Lib.hid nb3
 have b5 := Lib.hid nb5
 have b6 := Lib.hid nb6
 clear nb2 nb3 nb5 nb6
 replace H1 := Lib.hid (H1.out.kept nkeep)
 replace H2 := Lib.hid (H2.out.kept nkeep)
 replace HA := Lib.hid (HA.out.kept nkeep)
 replace HB := Lib.hid (HB.out.kept nkeep)
 clear nkeep
 have HB8 := Lib.hid nbel
 clear nbel HB4
 obtain ⟨x20, x21, x22, x23, s2⟩ := b2.out.d4
 obtain ⟨x30, x31, x32, x33, s3⟩ := b3.out.d4
 obtain ⟨x50, x51, s5⟩ := b5.out.d2
 obtain ⟨x60, x61, s6⟩ := b6.out.d2
 have szb := HB8.out.size
 go_wp2_with fail
 refine (terms_fact H2.out hn3).mono ?_
 rintro e W9 ⟨k2, A2, l2, c2, j2, B2, o2, e2, rfl, ha_, hc_, hb⟩
 replace b2 := hup b2 hb
 replace b3 := hup b3 hb
 replace b5 := hup b5 hb
 replace b6 := hup b6 hb
 replace H1 := Lib.hid (H1.out.kept (Keep.ofBelow hb))
 replace H2 := Lib.hid (H2.out.kept (Keep.ofBelow hb))
 replace HA := Lib.hid (HA.out.kept (Keep.ofBelow hb))
 replace HB := Lib.hid (HB.out.kept (Keep.ofBelow hb))
 have nbel := below_then HB8.out hb HB8.out.size
 have HB10 := Lib.hid nbel
 clear nbel HB8 hb x20 x21 x22 x23 x30 x31 x32 x33 x50 x51 x60 x61 szb s2 s3 s5 s6
 obtain ⟨x20, x21, x22, x23, s2⟩ := b2.out.d4
 obtain ⟨x30, x31, x32, x33, s3⟩ := b3.out.d4
 obtain ⟨x50, x51, s5⟩ := b5.out.d2
 obtain ⟨x60, x61, s6⟩ := b6.out.d2
 have szb := HB10.out.size
 have HC := Lib.hid ha_
 have HD := Lib.hid hc_
 clear ha_ hc_
 go_upto_region 3 with (fail)
 have q11 := b2.out.lt
 have q12 := b3.out.lt
 have q13 := b5.out.lt
 have q14 := b6.out.lt
 change Code.wp Tryz.prog _ _ _ ((W9.alloc (.cells #[.bool k2, .slice A2 l2 c2] 25)).alloc (.cells #[.bool j2, .slice B2 o2 e2] 25))
 obtain ⟨nb7, nb8, na⟩ := new2 W9 25 [.bool k2, .slice A2 l2 c2] 25 [.bool j2, .slice B2 o2 e2] lf2 lf2
 have nb2 := b2.out.up na
 have nb3 := b3.out.up na
 have nb5 := b5.out.up na
 have nb6 := b6.out.up na
 have nkeep := Keep.ofBelow na
 have nbel := below_then HB10.out na HB10.out.size
 generalize (W9.alloc (.cells #[.bool k2, .slice A2 l2 c2] 25)).alloc (.cells #[.bool j2, .slice B2 o2 e2] 25) = W15 at *
 clear na x20 x21 x22 x23 x30 x31 x32 x33 x50 x51 x60 x61 szb s2 s3 s5 s6 b2 b3 b5 b6
 have b2 := Lib.hid nb2
 have b3 := Lib.hid nb3
 have b5 := Lib.hid nb5
 have b6 := Lib.hid nb6
 have b7 := Lib.hid nb7
 have b8 := Lib.hid nb8
 clear nb2 nb3 nb5 nb6 nb7 nb8
 replace H1 := Lib.hid (H1.out.kept nkeep)
 replace H2 := Lib.hid (H2.out.kept nkeep)
 replace HA := Lib.hid (HA.out.kept nkeep)
 replace HB := Lib.hid (HB.out.kept nkeep)
 replace HC := Lib.hid (HC.out.kept nkeep)
 replace HD := Lib.hid (HD.out.kept nkeep)
 clear nkeep
 have HB16 := Lib.hid nbel
 clear nbel HB10
 obtain ⟨x20, x21, x22, x23, s2⟩ := b2.out.d4
 obtain ⟨x30, x31, x32, x33, s3⟩ := b3.out.d4
 obtain ⟨x50, x51, s5⟩ := b5.out.d2
 obtain ⟨x60, x61, s6⟩ := b6.out.d2
 obtain ⟨x70, x71, s7⟩ := b7.out.d2
 obtain ⟨x80, x81, s8⟩ := b8.out.d2
 have szb := HB16.out.size
 refine AS.region_facts (ratCmpFL x y n) (JNo W15) [[], [], [19, 20], [], [], [22, 23], [21, 24], [25]] [] [[]] [0, 0, 0, 0, 0, 0, 0, 0] [] (fun u => by simp only [ratCmpFL, AS.temps, List.map_cons, List.map_nil, fillL, List.setIfInBounds_toArray, List.set_cons_zero, List.set_cons_succ]; rfl) (by kernel_rfl) (by kernel_rfl) (JNo.st W15) (below_drew (Below.refl _ _)) ?_ ?_
 ·refine AS.sc rfl rfl rfl ?_ ?_
  ·intro k_ u w_ hk hJ hF K hK
   clear hF
   obtain rfl : k_ = 0 := Nat.le_zero.1 hk
   have hJ0 : Below W15.heap.size W15 w_ := hJ
   obtain ⟨y0, y1⟩ := ((b5.out).up hJ0).c2
   go_simp
   exact hK.out _ _ (Below.refl _ _) ((HA.out).kept (Keep.ofBelow hJ0)) trivial
  refine AS.sc rfl rfl rfl ?_ ?_
  ·intro k_ u w_ hk hJ hF K hK
   clear hF
   obtain rfl : k_ = 0 := Nat.le_zero.1 hk
   have hJ0 : Below W15.heap.size W15 w_ := hJ
   obtain ⟨y0, y1⟩ := ((b8.out).up hJ0).c2
   go_simp
   exact hK.out _ _ (Below.refl _ _) ((HD.out).kept (Keep.ofBelow hJ0)) trivial
  refine AS.sc rfl rfl rfl ?_ ?_
  ·intro k_ u w_ hk hJ hF K hK
   have h19 : PInt (x.num) n (u 19) w_ := AS.facts_get hF 19 (by simp)
   have h20 : PInt ((y.den : Int)) n (u 20) w_ := AS.facts_get hF 20 (by simp)
   clear hF
   go_simp
   refine (mul_fact h19 h20 (by omega) (by omega)).mono ?_
   rintro e w' ⟨v, rfl, hv, hb⟩
   exact hK.out _ _ hb (hv) trivial
  refine AS.sc rfl rfl rfl ?_ ?_
  ·intro k_ u w_ hk hJ hF K hK
   clear hF
   obtain rfl : k_ = 0 := Nat.le_zero.1 hk
   have hJ0 : Below W15.heap.size W15 w_ := hJ
   obtain ⟨y0, y1⟩ := ((b7.out).up hJ0).c2
   go_simp
   exact hK.out _ _ (Below.refl _ _) ((HC.out).kept (Keep.ofBelow hJ0)) trivial
  refine AS.sc rfl rfl rfl ?_ ?_
  ·intro k_ u w_ hk hJ hF K hK
   clear hF
   obtain rfl : k_ = 0 := Nat.le_zero.1 hk
   have hJ0 : Below W15.heap.size W15 w_ := hJ
   obtain ⟨y0, y1⟩ := ((b6.out).up hJ0).c2
   go_simp
   exact hK.out _ _ (Below.refl _ _) ((HB.out).kept (Keep.ofBelow hJ0)) trivial
  refine AS.sc rfl rfl rfl ?_ ?_
  ·intro k_ u w_ hk hJ hF K hK
   have h22 : PInt (y.num) n (u 22) w_ := AS.facts_get hF 22 (by simp)
   have h23 : PInt ((x.den : Int)) n (u 23) w_ := AS.facts_get hF 23 (by simp)
   clear hF
   go_simp
   refine (mul_fact h22 h23 (by omega) (by omega)).mono ?_
   rintro e w' ⟨v, rfl, hv, hb⟩
   exact hK.out _ _ hb (hv) trivial
  refine AS.sc rfl rfl rfl ?_ ?_
  ·intro k_ u w_ hk hJ hF K hK
   have h21 : PInt ((x.num) * ((y.den : Int))) (n + n) (u 21) w_ := AS.facts_get hF 21 (by simp)
   have h24 : PInt ((y.num) * ((x.den : Int))) (n + n) (u 24) w_ := AS.facts_get hF 24 (by simp)
   clear hF
   go_simp
   refine (cmp_fact h21 h24 (by omega) (by omega)).mono ?_
   rintro e w' ⟨rfl, hb⟩
   exact hK.out _ _ hb (rfl) trivial
  refine AS.sc rfl rfl rfl ?_ ?_
  ·intro k_ u w_ hk hJ hF K hK
   have h25 : u 25 = .int .i64 (cmpI ((x.num) * ((y.den : Int))) ((y.num) * ((x.den : Int)))) := AS.facts_get hF 25 (by simp)
   clear hF
   simp only [h25] at hK ⊢
   clear h25
   go_simp
   exact hK.out _ _ (Below.refl _ _) (rfl) trivial
  exact AS.StepsOk.nil
 ·intro u W17 hJ9 hF
  have h4 : u 4 = .int .i64 (cmpI ((x.num) * ((y.den : Int))) ((y.num) * ((x.den : Int)))) := AS.facts_get hF 4 (by simp [ratCmpFL, AS.temps])
  clear hF
  rw [cmp_terms] at h4
  have hbel := below_then HB16.out hJ9 HB16.out.size
  go_wp2_with fail
  refine bodyPost_ret (v := .int .i64 (cmpQ x y)) (by simp [results, Tryz.results26, go_sem, h4]) rfl ⟨rfl, hbel⟩
def ratMulFL (x y : Rat) (n : Nat) : List (Nat × AS.Fact) := [(19, AS.Fact.int (x.num) n), (20, AS.Fact.int (y.num) n), (21, AS.Fact.int ((x.num) * (y.num)) (n + n)), (22, AS.Fact.int ((x.den : Int)) n), (23, AS.Fact.int ((y.den : Int)) n), (24, AS.Fact.int (((x.den : Int)) * ((y.den : Int))) (n + n)), (25, AS.Fact.pair (x.num * y.num) ((x.den : Int) * (y.den : Int)) (n + n)), (26, AS.Fact.rat (x * y) (n + n + 1))]
set_option maxRecDepth 20000 in
set_option maxHeartbeats 3200000 in
theorem ratMul_fact {x y : Rat} {n : Nat} {v v2 : Value} {w : World} (h : PRat x n v w) (h2 : PRat y n v2 w) (hn3 : 3 ≤ n) (hn : n ≤ 10000) :
  Calls Tryz.prog 30 #[v, v2] w fun e w' => ∃ v, e = .returned v ∧ PRat (x * y) (n + n + 1) v w' ∧ Below w.heap.size w w' := by
 obtain ⟨k, A, l, c, k', A', l', c', rfl⟩ := h.open
 obtain ⟨r, E, m, d, r', E', m', d', rfl⟩ := h2.open
 have H1 := Lib.hid h
 have H2 := Lib.hid h2
 clear h h2
 go_enter Tryz.func30, Tryz.ntmps30
 go_upto_region 1 with (fail)
 change Code.wp Tryz.prog _ _ _ (((w.alloc (.cells #[.bool k, .slice A l c, .bool k', .slice A' l' c'] 27)).alloc (.cells #[.bool r, .slice E m d, .bool r', .slice E' m' d'] 27)).alloc (.cells #[.bool false, .slice none 0 0, .bool false, .slice none 0 0] 27))
 obtain ⟨nb2, nb3, nb4, na⟩ := new3 w 27 [.bool k, .slice A l c, .bool k', .slice A' l' c'] 27 [.bool r, .slice E m d, .bool r', .slice E' m' d'] 27 [.bool false, .slice none 0 0, .bool false, .slice none 0 0] lf4 lf4 lf4
 have nkeep := Keep.ofBelow na
 have nbel := na
 generalize ((w.alloc (.cells #[.bool k, .slice A l c, .bool k', .slice A' l' c'] 27)).alloc (.cells #[.bool r, .slice E m d, .bool r', .slice E' m' d'] 27)).alloc (.cells #[.bool false, .slice none 0 0, .bool false, .slice none 0 0] 27) = W1 at *
 clear na
 have b2 := Lib.hid nb2
 have b3 := Lib.hid nb3
 have b4 := Lib.hid nb4
 clear nb2 nb3 nb4
 replace H1 := Lib.hid (H1.out.kept nkeep)
 replace H2 := Lib.hid (H2.out.kept nkeep)
 clear nkeep
 have HB2 := Lib.hid nbel
 clear nbel
 obtain ⟨x2_0, x2_1, x2_2, x2_3, s2⟩ := b2.out.d4
 obtain ⟨x3_0, x3_1, x3_2, x3_3, s3⟩ := b3.out.d4
 obtain ⟨x4_0, x4_1, x4_2, x4_3, s4⟩ := b4.out.d4
 have szb := HB2.out.size
 go_wp2_with fail
 refine (terms_fact H1.out hn3).mono ?_
 rintro e W3 ⟨k1, A1, l1, c1, j1, B1, o1, e1, rfl, ha_, hc_, hb⟩
 replace b2 := hup b2 hb
 replace b3 := hup b3 hb
 replace b4 := hup b4 hb
 replace H1 := Lib.hid (H1.out.kept (Keep.ofBelow hb))
 replace H2 := Lib.hid (H2.out.kept (Keep.ofBelow hb))
 have nbel := below_then HB2.out hb HB2.out.size
 have HB4 := Lib.hid nbel
 clear nbel HB2 hb x2_0 x2_1 x2_2 x2_3 x3_0 x3_1 x3_2 x3_3 x4_0 x4_1 x4_2 x4_3 szb s2 s3 s4
 obtain ⟨x2_0, x2_1, x2_2, x2_3, s2⟩ := b2.out.d4
 obtain ⟨x3_0, x3_1, x3_2, x3_3, s3⟩ := b3.out.d4
 obtain ⟨x4_0, x4_1, x4_2, x4_3, s4⟩ := b4.out.d4
 have szb := HB4.out.size
 have HA := Lib.hid ha_
 have HB := Lib.hid hc_
 clear ha_ hc_
 go_upto_region 2 with (fail)
 have q5 := b2.out.lt
 have q6 := b3.out.lt
 have q7 := b4.out.lt
 change Code.wp Tryz.prog _ _ _ ((W3.alloc (.cells #[.bool k1, .slice A1 l1 c1] 25)).alloc (.cells #[.bool j1, .slice B1 o1 e1] 25))
 obtain ⟨nb5, nb6, na⟩ := new2 W3 25 [.bool k1, .slice A1 l1 c1] 25 [.bool j1, .slice B1 o1 e1] lf2 lf2
 have nb2 := b2.out.up na
 have nb3 := b3.out.up na
 have nb4 := b4.out.up na
 have nkeep := Keep.ofBelow na
 have nbel := below_then HB4.out na HB4.out.size
 generalize (W3.alloc (.cells #[.bool k1, .slice A1 l1 c1] 25)).alloc (.cells #[.bool j1, .slice B1 o1 e1] 25) = W8 at *
 clear na x2_0 x2_1 x2_2 x2_3 x3_0 x3_1 x3_2 x3_3 x4_0 x4_1 x4_2 x4_3 szb s2 s3 s4 b2 b3 b4
 have b2 := Lib.hid nb2
 have b3 := Lib.hid nb3
 have b4 := Lib.hid nb4
 have b5 := Lib.hid nb5
 have b6 := Lib.hid nb6
 clear nb2 nb3 nb4 nb5 nb6
 replace H1 := Lib.hid (H1.out.kept nkeep)
 replace H2 := Lib.hid (H2.out.kept nkeep)
 replace HA := Lib.hid (HA.out.kept nkeep)
 replace HB := Lib.hid (HB.out.kept nkeep)
 clear nkeep
 have HB9 := Lib.hid nbel
 clear nbel HB4
 obtain ⟨x2_0, x2_1, x2_2, x2_3, s2⟩ := b2.out.d4
 obtain ⟨x3_0, x3_1, x3_2, x3_3, s3⟩ := b3.out.d4
 obtain ⟨x4_0, x4_1, x4_2, x4_3, s4⟩ := b4.out.d4
 obtain ⟨x5_0, x5_1, s5⟩ := b5.out.d2
 obtain ⟨x6_0, x6_1, s6⟩ := b6.out.d2
 have szb := HB9.out.size
 go_wp2_with fail
 refine (terms_fact H2.out hn3).mono ?_
 rintro e W10 ⟨k2, A2, l2, c2, j2, B2, o2, e2, rfl, ha_, hc_, hb⟩
 replace b2 := hup b2 hb
 replace b3 := hup b3 hb
 replace b4 := hup b4 hb
 replace b5 := hup b5 hb
 replace b6 := hup b6 hb
 replace H1 := Lib.hid (H1.out.kept (Keep.ofBelow hb))
 replace H2 := Lib.hid (H2.out.kept (Keep.ofBelow hb))
 replace HA := Lib.hid (HA.out.kept (Keep.ofBelow hb))
 replace HB := Lib.hid (HB.out.kept (Keep.ofBelow hb))
 have nbel := below_then HB9.out hb HB9.out.size
 have HB11 := Lib.hid nbel
 clear nbel HB9 hb x2_0 x2_1 x2_2 x2_3 x3_0 x3_1 x3_2 x3_3 x4_0 x4_1 x4_2 x4_3 x5_0 x5_1 x6_0 x6_1 szb s2 s3 s4 s5 s6
 obtain ⟨x2_0, x2_1, x2_2, x2_3, s2⟩ := b2.out.d4
 obtain ⟨x3_0, x3_1, x3_2, x3_3, s3⟩ := b3.out.d4
 obtain ⟨x4_0, x4_1, x4_2, x4_3, s4⟩ := b4.out.d4
 obtain ⟨x5_0, x5_1, s5⟩ := b5.out.d2
 obtain ⟨x6_0, x6_1, s6⟩ := b6.out.d2
 have szb := HB11.out.size
 have HC := Lib.hid ha_
 have HD := Lib.hid hc_
 clear ha_ hc_
 go_upto_region 3 with (fail)
 have q12 := b2.out.lt
 have q13 := b3.out.lt
 have q14 := b4.out.lt
 have q15 := b5.out.lt
 have q16 := b6.out.lt
 change Code.wp Tryz.prog _ _ _ ((W10.alloc (.cells #[.bool k2, .slice A2 l2 c2] 25)).alloc (.cells #[.bool j2, .slice B2 o2 e2] 25))
 obtain ⟨nb7, nb8, na⟩ := new2 W10 25 [.bool k2, .slice A2 l2 c2] 25 [.bool j2, .slice B2 o2 e2] lf2 lf2
 have nb2 := b2.out.up na
 have nb3 := b3.out.up na
 have nb4 := b4.out.up na
 have nb5 := b5.out.up na
 have nb6 := b6.out.up na
 have nkeep := Keep.ofBelow na
 have nbel := below_then HB11.out na HB11.out.size
 generalize (W10.alloc (.cells #[.bool k2, .slice A2 l2 c2] 25)).alloc (.cells #[.bool j2, .slice B2 o2 e2] 25) = W17 at *
 clear na x2_0 x2_1 x2_2 x2_3 x3_0 x3_1 x3_2 x3_3 x4_0 x4_1 x4_2 x4_3 x5_0 x5_1 x6_0 x6_1 szb s2 s3 s4 s5 s6 b2 b3 b4 b5 b6
 have b2 := Lib.hid nb2
 have b3 := Lib.hid nb3
 have b4 := Lib.hid nb4
 have b5 := Lib.hid nb5
 have b6 := Lib.hid nb6
 have b7 := Lib.hid nb7
 have b8 := Lib.hid nb8
 clear nb2 nb3 nb4 nb5 nb6 nb7 nb8
 replace H1 := Lib.hid (H1.out.kept nkeep)
 replace H2 := Lib.hid (H2.out.kept nkeep)
 replace HA := Lib.hid (HA.out.kept nkeep)
 replace HB := Lib.hid (HB.out.kept nkeep)
 replace HC := Lib.hid (HC.out.kept nkeep)
 replace HD := Lib.hid (HD.out.kept nkeep)
 clear nkeep
 have HB18 := Lib.hid nbel
 clear nbel HB11
 obtain ⟨x2_0, x2_1, x2_2, x2_3, s2⟩ := b2.out.d4
 obtain ⟨x3_0, x3_1, x3_2, x3_3, s3⟩ := b3.out.d4
 obtain ⟨x4_0, x4_1, x4_2, x4_3, s4⟩ := b4.out.d4
 obtain ⟨x5_0, x5_1, s5⟩ := b5.out.d2
 obtain ⟨x6_0, x6_1, s6⟩ := b6.out.d2
 obtain ⟨x7_0, x7_1, s7⟩ := b7.out.d2
 obtain ⟨x8_0, x8_1, s8⟩ := b8.out.d2
 have szb := HB18.out.size
 refine AS.region_facts (ratMulFL x y n) (JRes w W17 27 (w.heap.size + 1 + 1)) [[], [], [19, 20], [], [], [22, 23], [21, 24], [25], [26]] [8] [[], [26]] [0, 0, 1, 0, 0, 1, 1, 1, 1] [] (fun u => by simp only [ratMulFL, AS.temps, List.map_cons, List.map_nil, fillL, List.setIfInBounds_toArray, List.set_cons_zero, List.set_cons_succ]; rfl) (by kernel_rfl) (by kernel_rfl) (JRes.st w W17 27 (w.heap.size + 1 + 1)) (below_drew (Below.refl _ _)) ?_ ?_
 ·refine AS.sc rfl rfl rfl ?_ ?_
  ·intro k_ u w_ hk hJ hF K hK
   clear hF
   obtain rfl : k_ = 0 := Nat.le_zero.1 hk
   have hJ0 : Below W17.heap.size W17 w_ := hJ
   obtain ⟨y0, y1⟩ := ((b5.out).up hJ0).c2
   go_simp
   exact hK.out _ _ (Below.refl _ _) ((HA.out).kept (Keep.ofBelow hJ0)) trivial
  refine AS.sc rfl rfl rfl ?_ ?_
  ·intro k_ u w_ hk hJ hF K hK
   clear hF
   obtain rfl : k_ = 0 := Nat.le_zero.1 hk
   have hJ0 : Below W17.heap.size W17 w_ := hJ
   obtain ⟨y0, y1⟩ := ((b7.out).up hJ0).c2
   go_simp
   exact hK.out _ _ (Below.refl _ _) ((HC.out).kept (Keep.ofBelow hJ0)) trivial
  refine AS.sc rfl rfl rfl ?_ ?_
  ·intro k_ u w_ hk hJ hF K hK
   have h19 : PInt (x.num) n (u 19) w_ := AS.facts_get hF 19 (by simp)
   have h20 : PInt (y.num) n (u 20) w_ := AS.facts_get hF 20 (by simp)
   clear hF
   go_simp
   refine (mul_fact h19 h20 (by omega) (by omega)).mono ?_
   rintro e w' ⟨v, rfl, hv, hb⟩
   exact hK.out _ _ hb (hv) trivial
  refine AS.sc rfl rfl rfl ?_ ?_
  ·intro k_ u w_ hk hJ hF K hK
   clear hF
   obtain rfl : k_ = 0 := Nat.le_zero.1 hk
   have hJ0 : Below W17.heap.size W17 w_ := hJ
   obtain ⟨y0, y1⟩ := ((b6.out).up hJ0).c2
   go_simp
   exact hK.out _ _ (Below.refl _ _) ((HB.out).kept (Keep.ofBelow hJ0)) trivial
  refine AS.sc rfl rfl rfl ?_ ?_
  ·intro k_ u w_ hk hJ hF K hK
   clear hF
   obtain rfl : k_ = 0 := Nat.le_zero.1 hk
   have hJ0 : Below W17.heap.size W17 w_ := hJ
   obtain ⟨y0, y1⟩ := ((b8.out).up hJ0).c2
   go_simp
   exact hK.out _ _ (Below.refl _ _) ((HD.out).kept (Keep.ofBelow hJ0)) trivial
  refine AS.sc rfl rfl rfl ?_ ?_
  ·intro k_ u w_ hk hJ hF K hK
   have h22 : PInt ((x.den : Int)) n (u 22) w_ := AS.facts_get hF 22 (by simp)
   have h23 : PInt ((y.den : Int)) n (u 23) w_ := AS.facts_get hF 23 (by simp)
   clear hF
   go_simp
   refine (mul_fact h22 h23 (by omega) (by omega)).mono ?_
   rintro e w' ⟨v, rfl, hv, hb⟩
   exact hK.out _ _ hb (hv) trivial
  refine AS.sc rfl rfl rfl ?_ ?_
  ·intro k_ u w_ hk hJ hF K hK
   have h21 : PInt ((x.num) * (y.num)) (n + n) (u 21) w_ := AS.facts_get hF 21 (by simp)
   have h24 : PInt (((x.den : Int)) * ((y.den : Int))) (n + n) (u 24) w_ := AS.facts_get hF 24 (by simp)
   clear hF
   obtain ⟨ka, Aa, la, ca, ea⟩ := h21.open
   obtain ⟨kb, Ab, lb, cb, eb⟩ := h24.open
   rw [ea] at h21
   rw [eb] at h24
   simp only [ea, eb] at hK ⊢
   go_simp
   exact hK.out _ _ (Below.refl _ _) (⟨ka, Aa, la, ca, kb, Ab, lb, cb, rfl, h21.more (by omega), h24.more (by omega)⟩) trivial
  refine AS.sc rfl rfl rfl ?_ ?_
  ·intro k_ u w_ hk hJ hF K hK
   have h25 : Pair (x.num * y.num) ((x.den : Int) * (y.den : Int)) (n + n) (u 25) w_ := AS.facts_get hF 25 (by simp)
   clear hF
   go_simp
   refine (red_pair h25 (by omega) (mul_ne (den_ne x) (den_ne y))).mono ?_
   rintro e w' ⟨v, rfl, hv, hb⟩
   exact hK.out _ _ hb (by rw [mul_terms] at hv; exact hv) trivial
  refine AS.ss rfl rfl ?_ ?_
  ·intro u w_ hJ hAp hF K hK
   have h26 : PRat (x * y) (n + n + 1) (u 26) w_ := AS.facts_get hF 26 (by simp)
   clear hF
   obtain ⟨k1, A1, l1, c1, k2, A2, l2, c2, e_⟩ := h26.open
   have hJ0 : Below W17.heap.size W17 w_ := hJ
   have bx := (b4.out).up hJ0
   have hbel := below_then HB18.out hJ0 HB18.out.size
   have y0 := bx.cell 0
   have z0 := bx.frozen 0
   have y1 := bx.cell 1
   have z1 := bx.frozen 1
   have y2 := bx.cell 2
   have z2 := bx.frozen 2
   have y3 := bx.cell 3
   have z3 := bx.frozen 3
   simp only [List.getElem?_cons_zero, List.getElem?_cons_succ] at y0 y1 y2 y3
   simp only [e_] at hK ⊢
   go_simp
   exact hK.out undef _ ⟨⟨(Below.setCell (p := ⟨w.heap.size + 1 + 1, 3, none⟩) (Below.setCell (p := ⟨w.heap.size + 1 + 1, 2, none⟩) (Below.set2 (g := w.heap.size + 1 + 1) hbel (by first | omega | (simp; done) | (simp; omega)) (.bool k1) (.slice A1 l1 c1)) (by first | omega | (simp; done) | (simp; omega)) (.bool k2)) (by first | omega | (simp; done) | (simp; omega)) (.slice A2 l2 c2)), (by simp only [setCell_size]; first | exact hsz | exact Nat.le_trans HB18.out.size hJ0.size)⟩, [.bool k1, .slice A1 l1 c1, .bool k2, .slice A2 l2 c2], by simp [e_], (Bx.set4 bx (Leaf.bool k1) (Leaf.slice A1 l1 c1) (Leaf.bool k2) (Leaf.slice A2 l2 c2))⟩ (Keep.set4 (Keep.refl w_) bx (Leaf.bool k1) (Leaf.slice A1 l1 c1) (Leaf.bool k2) (Leaf.slice A2 l2 c2))
  exact AS.StepsOk.nil
 ·intro u W19 hJ9 hF
  have h26 : PRat (x * y) (n + n + 1) (u 26) W19 := AS.facts_get hF 26 (by simp [ratMulFL, AS.temps])
  clear hF
  obtain ⟨⟨hbel, -⟩, vs, hvs, hbx⟩ := hJ9
  obtain ⟨ka, Aa, la, ca, kb, Ab, lb, cb, ea⟩ := h26.open
  rw [ea] at h26
  obtain rfl : vs = [.bool ka, .slice Aa la ca, .bool kb, .slice Ab lb cb] := by
   have e1 := (List.cons.inj hvs).1
   rw [show u 26 = _ from ea] at e1
   have e2 := congrArg Array.toList (Value.agg.inj e1)
   simpa using e2.symm
  have y0 := hbx.cell 0
  have y1 := hbx.cell 1
  have y2 := hbx.cell 2
  have y3 := hbx.cell 3
  simp only [List.getElem?_cons_zero, List.getElem?_cons_succ] at y0 y1 y2 y3
  go_wp2_with fail
  refine bodyPost_ret (v := .agg #[.bool ka, .slice Aa la ca, .bool kb, .slice Ab lb cb]) (by simp [results, Tryz.results30, go_sem, y0, y1, y2, y3]) rfl ⟨_, rfl, h26, hbel⟩
set_option maxRecDepth 20000 in
set_option maxHeartbeats 3200000 in
theorem ratSign_fact {x : Rat} {n : Nat} {v : Value} {w : World} (h : PRat x n v w) :
  Calls Tryz.prog 16 #[v] w fun e w' => e = .returned (.int .i64 (cmpQ x 0)) ∧ Below w.heap.size w w' := by
 obtain ⟨k, A, l, c, k', A', l', c', rfl⟩ := h.open
 obtain ⟨p, q, h1, h2, h3⟩ := h.parts
 have hc : cmpI p 0 = cmpQ x 0 := by
  rcases h3 with ⟨rfl, -⟩ | ⟨rfl, -, rfl⟩
  ·exact sign_terms x
  ·decide +kernel
 generalize cmpQ x 0 = cc at *
 have H1 := Lib.hid h1
 clear h h1 h2 h3
 go_enter Tryz.func16, Tryz.ntmps16
 go_upto_region 1 with (fail)
 change Code.wp Tryz.prog _ _ _ (w.alloc (.cells #[.bool k, .slice A l c, .bool k', .slice A' l' c'] 27))
 obtain ⟨nb1, na⟩ := new1 w 27 [.bool k, .slice A l c, .bool k', .slice A' l' c'] lf4
 have nkeep := Keep.ofBelow na
 have nbel := na
 generalize w.alloc (.cells #[.bool k, .slice A l c, .bool k', .slice A' l' c'] 27) = W1 at *
 clear na
 have b1 := Lib.hid nb1
 clear nb1
 replace H1 := Lib.hid (H1.out.kept nkeep)
 clear nkeep
 have HB2 := Lib.hid nbel
 clear nbel
 obtain ⟨x10, x11, x12, x13, s1⟩ := b1.out.d4
 have szb := HB2.out.size
 go_wp2_with fail
 refine (sign_is H1.out hc).mono ?_
 rintro e W3 ⟨rfl, hb⟩
 replace b1 := hup b1 hb
 replace H1 := Lib.hid (H1.out.kept (Keep.ofBelow hb))
 have nbel := below_then HB2.out hb HB2.out.size
 have HB4 := Lib.hid nbel
 clear nbel HB2 hb x10 x11 x12 x13 szb s1
 obtain ⟨x10, x11, x12, x13, s1⟩ := b1.out.d4
 have szb := HB4.out.size
 go_wp2_with fail
 have hkeep := (Keep.refl W3)
 have hbel := HB4.out
 refine bodyPost_ret (v := .int .i64 cc) (by simp [results, Tryz.results16, go_sem]) rfl ⟨rfl, hbel⟩
theorem ratCmp_is {x y : Rat} {n : Nat} {c : Int} {v v2 : Value} {w : World} (h : PRat x n v w) (h2 : PRat y n v2 w) (hn3 : 3 ≤ n) (hn : n ≤ 10000) (hc : cmpQ x y = c) :
  Calls Tryz.prog 26 #[v, v2] w fun e w' => e = .returned (.int .i64 c) ∧ Below w.heap.size w w' := hc ▸ ratCmp_fact h h2 hn3 hn
theorem ratSign_is {x : Rat} {n : Nat} {c : Int} {v : Value} {w : World} (h : PRat x n v w) (hc : cmpQ x 0 = c) :
  Calls Tryz.prog 16 #[v] w fun e w' => e = .returned (.int .i64 c) ∧ Below w.heap.size w w' := hc ▸ ratSign_fact h
theorem cmpQ_sub2 (x y : Rat) : cmpQ (x - y) 0 = cmpQ x y := by
 unfold cmpQ
 by_cases h1 : x < y
 ·rw [if_pos h1, if_pos (by grind)]
 ·rw [if_neg h1, if_neg (by grind)]
  by_cases h2 : x = y
  ·rw [if_pos h2, if_pos (by grind)]
  ·rw [if_neg h2, if_neg (by grind)]
theorem cmpQ_swap (x y : Rat) : cmpQ y x = -(cmpQ x y) := by
 unfold cmpQ
 by_cases h1 : x < y
 ·rw [if_pos h1, if_neg (by grind), if_neg (by grind)]; rfl
 ·rw [if_neg h1]
  by_cases h2 : x = y
  ·rw [if_pos h2, if_neg (by grind), if_pos (by grind)]; rfl
  ·rw [if_neg h2, if_pos (by grind)]
theorem cmpQ_addr (x y z : Rat) : cmpQ (x + z) (y + z) = cmpQ x y := by
 unfold cmpQ
 by_cases h1 : x < y
 ·rw [if_pos h1, if_pos (by grind)]
 ·rw [if_neg h1, if_neg (by grind)]
  by_cases h2 : x = y
  ·rw [if_pos h2, if_pos (by grind)]
  ·rw [if_neg h2, if_neg (by grind)]
theorem cmpQ_range (x y : Rat) : -1 ≤ cmpQ x y ∧ cmpQ x y ≤ 1 := by
 unfold cmpQ
 split
 ·decide
 ·split <;> decide
theorem cmpQ_trans {x y z : Rat} (h1 : cmpQ x y ≤ 0) (h2 : cmpQ y z ≤ 0) : cmpQ x z ≤ 0 := by
 unfold cmpQ at *
 by_cases a : x < y <;> by_cases b : y < z <;> by_cases c : x = y <;> by_cases d : y = z <;> by_cases e : x < z <;> by_cases f : x = z <;> simp_all <;> grind
theorem cmpQ_mulr (x y z : Rat) : cmpQ (x * z) (y * z) = cmpQ x y * cmpQ z 0 := by
 unfold cmpQ
 rcases (by grind : z < 0 ∨ z = 0 ∨ 0 < z) with hz | hz | hz
 ·rw [if_pos hz]
  have k1 : x * z < y * z ↔ y < x := by
   constructor
   ·intro h
    have h3 : 0 < (y - x) * z := by grind
    have h5 : (y - x) * z = (x - y) * (-z) := by grind
    rcases (by grind : y < x ∨ x ≤ y) with h4 | h4
    ·exact h4
    ·exfalso
     have := Rat.mul_nonneg (a := y - x) (b := -z) (by grind) (by grind)
     grind
   ·intro h
    have := Rat.mul_pos (a := x - y) (b := -z) (by grind) (by grind)
    grind
  have k2 : x * z = y * z ↔ x = y := by
   constructor
   ·intro h
    have h3 : (x - y) * z = 0 := by grind
    rcases Rat.mul_eq_zero.1 h3 with h4 | h4 <;> grind
   ·intro h; rw [h]
  simp only [k1, k2]
  by_cases a : x < y
  ·rw [if_pos a, if_neg (by grind), if_neg (by grind)]; rfl
  ·rw [if_neg a]
   by_cases b : x = y
   ·rw [if_pos b, if_neg (by grind)] <;> rfl
   ·rw [if_neg b, if_pos (by grind)] <;> rfl
 ·subst hz
  rw [if_neg (Rat.lt_irrefl), if_pos rfl, Rat.mul_zero, Rat.mul_zero, if_neg (Rat.lt_irrefl), if_pos rfl, Int.mul_zero]
 ·rw [if_neg (show ¬ z < 0 by grind), if_neg (show z ≠ 0 by grind)]
  have k1 : x * z < y * z ↔ x < y := by
   constructor
   ·intro h
    rcases (by grind : x < y ∨ y ≤ x) with h4 | h4
    ·exact h4
    ·exfalso
     have := Rat.mul_nonneg (a := x - y) (b := z) (by grind) (by grind)
     grind
   ·intro h
    have := Rat.mul_pos (a := y - x) (b := z) (by grind) (by grind)
    grind
  have k2 : x * z = y * z ↔ x = y := by
   constructor
   ·intro h
    have h3 : (x - y) * z = 0 := by grind
    rcases Rat.mul_eq_zero.1 h3 with h4 | h4 <;> grind
   ·intro h; rw [h]
  simp only [k1, k2, Int.mul_one]
theorem wrapn {c : Int} (h : -1 ≤ c ∧ c ≤ 1) : IntKind.i64.wrap (-c) = -c := by rw [IntKind.wrap_i64]; omega
theorem wrapm {c s : Int} (h : -1 ≤ c ∧ c ≤ 1) (h2 : -1 ≤ s ∧ s ≤ 1) : IntKind.i64.wrap (c * s) = c * s := by
 rcases (by omega : c = -1 ∨ c = 0 ∨ c = 1) with rfl | rfl | rfl <;> rw [IntKind.wrap_i64] <;> omega
def orderFL (x y z : Rat) (c : Int) : List (Nat × AS.Fact) := [(46, AS.Fact.is (.int .i64 (c))), (47, AS.Fact.rat (x) 223), (48, AS.Fact.rat (y) 223), (49, AS.Fact.rat (x - y) 898), (50, AS.Fact.is (.int .i64 (c))), (51, AS.Fact.is (.bool false)), (52, AS.Fact.is (.bool false)), (53, AS.Fact.rat (y) 223), (54, AS.Fact.rat (x) 223), (55, AS.Fact.is (.int .i64 (-c))), (56, AS.Fact.is (.int .i64 (c))), (57, AS.Fact.is (.int .i64 (-c))), (58, AS.Fact.is (.bool false)), (59, AS.Fact.is (.bool false)), (60, AS.Fact.is (.bool false)), (61, AS.Fact.rat (x) 223), (62, AS.Fact.rat (z) 223), (63, AS.Fact.rat (x + z) 894), (64, AS.Fact.rat (y) 223), (65, AS.Fact.rat (z) 223), (66, AS.Fact.rat (y + z) 894), (67, AS.Fact.is (.int .i64 (c))), (68, AS.Fact.is (.int .i64 (c))), (69, AS.Fact.is (.bool false)), (70, AS.Fact.is (.bool false))]
def orderFLA (x y z : Rat) (c sg _d _f m : Int) : List (Nat × AS.Fact) := [(71, AS.Fact.rat (x) 223), (72, AS.Fact.rat (z) 223), (73, AS.Fact.rat (x * z) 447), (74, AS.Fact.rat (y) 223), (75, AS.Fact.rat (z) 223), (76, AS.Fact.rat (y * z) 447), (77, AS.Fact.is (.int .i64 (m))), (78, AS.Fact.is (.int .i64 (c))), (79, AS.Fact.rat (z) 223), (80, AS.Fact.is (.int .i64 (sg))), (81, AS.Fact.is (.int .i64 (m))), (82, AS.Fact.is (.bool true)), (83, AS.Fact.is (.bool true)), (84, AS.Fact.is (.int .i64 (c))), (85, AS.Fact.is (.bool true)), (86, AS.Fact.is (.bool true)), (87, AS.Fact.is undef), (88, AS.Fact.is undef), (89, AS.Fact.is undef), (90, AS.Fact.is undef), (91, AS.Fact.is (.bool true)), (92, AS.Fact.is (.bool true)), (93, AS.Fact.is undef), (94, AS.Fact.is undef), (95, AS.Fact.is undef), (96, AS.Fact.is undef), (97, AS.Fact.is (.bool true)), (98, AS.Fact.is (.bool true)), (6, AS.Fact.is (.bool true))]
def orderFLB (x y z : Rat) (c sg d _f m : Int) : List (Nat × AS.Fact) := [(71, AS.Fact.rat (x) 223), (72, AS.Fact.rat (z) 223), (73, AS.Fact.rat (x * z) 447), (74, AS.Fact.rat (y) 223), (75, AS.Fact.rat (z) 223), (76, AS.Fact.rat (y * z) 447), (77, AS.Fact.is (.int .i64 (m))), (78, AS.Fact.is (.int .i64 (c))), (79, AS.Fact.rat (z) 223), (80, AS.Fact.is (.int .i64 (sg))), (81, AS.Fact.is (.int .i64 (m))), (82, AS.Fact.is (.bool true)), (83, AS.Fact.is (.bool true)), (84, AS.Fact.is (.int .i64 (c))), (85, AS.Fact.is (.bool false)), (86, AS.Fact.is (.bool false)), (87, AS.Fact.rat (y) 223), (88, AS.Fact.rat (z) 223), (89, AS.Fact.is (.int .i64 (d))), (90, AS.Fact.is (.bool true)), (91, AS.Fact.is (.bool true)), (92, AS.Fact.is (.bool true)), (93, AS.Fact.is undef), (94, AS.Fact.is undef), (95, AS.Fact.is undef), (96, AS.Fact.is undef), (97, AS.Fact.is (.bool true)), (98, AS.Fact.is (.bool true)), (6, AS.Fact.is (.bool true))]
def orderFLC (x y z : Rat) (c sg d f m : Int) : List (Nat × AS.Fact) := [(71, AS.Fact.rat (x) 223), (72, AS.Fact.rat (z) 223), (73, AS.Fact.rat (x * z) 447), (74, AS.Fact.rat (y) 223), (75, AS.Fact.rat (z) 223), (76, AS.Fact.rat (y * z) 447), (77, AS.Fact.is (.int .i64 (m))), (78, AS.Fact.is (.int .i64 (c))), (79, AS.Fact.rat (z) 223), (80, AS.Fact.is (.int .i64 (sg))), (81, AS.Fact.is (.int .i64 (m))), (82, AS.Fact.is (.bool true)), (83, AS.Fact.is (.bool true)), (84, AS.Fact.is (.int .i64 (c))), (85, AS.Fact.is (.bool false)), (86, AS.Fact.is (.bool false)), (87, AS.Fact.rat (y) 223), (88, AS.Fact.rat (z) 223), (89, AS.Fact.is (.int .i64 (d))), (90, AS.Fact.is (.bool false)), (91, AS.Fact.is (.bool false)), (92, AS.Fact.is (.bool false)), (93, AS.Fact.rat (x) 223), (94, AS.Fact.rat (z) 223), (95, AS.Fact.is (.int .i64 (f))), (96, AS.Fact.is (.bool true)), (97, AS.Fact.is (.bool true)), (98, AS.Fact.is (.bool true)), (6, AS.Fact.is (.bool true))]
set_option maxRecDepth 20000 in
set_option maxHeartbeats 12800000 in
theorem law_order2 (s t r : ByteArray) (w : World) (hm : MaxOk w) (ht : Tab w.heap.size w) :
  Calls Tryz.prog 8 #[.string s, .string t, .string r] w fun e w' => e = .returned (.bool true) ∧ Below w.heap.size w w' := by
 have HM := Lib.hid hm
 have HT := Lib.hid ht
 clear hm ht
 go_enter Tryz.func8, Tryz.ntmps8
 go_wp2_with fail
 refine (awake_fact HT.out).mono ?_
 rintro e W1 ⟨rfl, hb⟩
 have nbel := hb
 have HB2 := Lib.hid nbel
 clear nbel hb
 have szb := HB2.out.size
 go_wp2_with fail
 refine (both_fact s t _ (HM.out.up HB2.out)).mono ?_
 rintro e W3 ⟨k1, A1, l1, c1, m1, E1, p1, q1, k2, A2, l2, c2, m2, E2, p2, q2, k3, A3, l3, c3, m3, E3, p3, q3, k4, A4, l4, c4, m4, E4, p4, q4, ok, rfl, hv, hb⟩
 have nbel := below_then HB2.out hb HB2.out.size
 have HB4 := Lib.hid nbel
 clear nbel HB2 hb szb
 have szb := HB4.out.size
 generalize ratV s.data.toList = x at hv
 generalize ratV t.data.toList = y at hv
 have HB0 := Lib.hid (OkP.mk hv)
 clear hv
 go_upto_region 4 with (fail)
 change Code.wp Tryz.prog _ _ _ ((((W3.alloc (.cells #[.bool k1, .slice A1 l1 c1, .bool m1, .slice E1 p1 q1] 27)).alloc (.cells #[.bool k2, .slice A2 l2 c2, .bool m2, .slice E2 p2 q2] 27)).alloc (.cells #[.bool k3, .slice A3 l3 c3, .bool m3, .slice E3 p3 q3] 35)).alloc (.cells #[.bool k4, .slice A4 l4 c4, .bool m4, .slice E4 p4 q4] 35))
 obtain ⟨nb7, nb8, nb9, nb10, na⟩ := new4 W3 27 [.bool k1, .slice A1 l1 c1, .bool m1, .slice E1 p1 q1] 27 [.bool k2, .slice A2 l2 c2, .bool m2, .slice E2 p2 q2] 35 [.bool k3, .slice A3 l3 c3, .bool m3, .slice E3 p3 q3] 35 [.bool k4, .slice A4 l4 c4, .bool m4, .slice E4 p4 q4] lf4 lf4 lf4 lf4
 have nkeep := Keep.ofBelow na
 have nbel := below_then HB4.out na HB4.out.size
 generalize (((W3.alloc (.cells #[.bool k1, .slice A1 l1 c1, .bool m1, .slice E1 p1 q1] 27)).alloc (.cells #[.bool k2, .slice A2 l2 c2, .bool m2, .slice E2 p2 q2] 27)).alloc (.cells #[.bool k3, .slice A3 l3 c3, .bool m3, .slice E3 p3 q3] 35)).alloc (.cells #[.bool k4, .slice A4 l4 c4, .bool m4, .slice E4 p4 q4] 35) = W5 at *
 clear na szb
 have b7 := Lib.hid nb7
 have b8 := Lib.hid nb8
 have b9 := Lib.hid nb9
 have b10 := Lib.hid nb10
 clear nb7 nb8 nb9 nb10
 replace HB0 := Lib.hid (HB0.out.kept nkeep)
 clear nkeep
 have HB6 := Lib.hid nbel
 clear nbel HB4
 obtain ⟨x70, x71, x72, x73, s7⟩ := b7.out.d4
 obtain ⟨x80, x81, x82, x83, s8⟩ := b8.out.d4
 obtain ⟨x90, x91, x92, x93, s9⟩ := b9.out.d4
 obtain ⟨x100, x101, x102, x103, s10⟩ := b10.out.d4
 have szb := HB6.out.size
 go_wp2_with fail
 refine (both_fact r ⟨#[48]⟩ _ (HM.out.up HB6.out)).mono ?_
 rintro e W7 ⟨k5, A5, l5, c5, m5, E5, p5, q5, k6, A6, l6, c6, m6, E6, p6, q6, k7, A7, l7, c7, m7, E7, p7, q7, k8, A8, l8, c8, m8, E8, p8, q8, ok2, rfl, hv, hb⟩
 replace b7 := hup b7 hb
 replace b8 := hup b8 hb
 replace b9 := hup b9 hb
 replace b10 := hup b10 hb
 replace HB0 := Lib.hid (HB0.out.kept (Keep.ofBelow hb))
 have nbel := below_then HB6.out hb HB6.out.size
 have HB8 := Lib.hid nbel
 clear nbel HB6 hb x70 x71 x72 x73 x80 x81 x82 x83 x90 x91 x92 x93 x100 x101 x102 x103 szb s7 s8 s9 s10
 obtain ⟨x70, x71, x72, x73, s7⟩ := b7.out.d4
 obtain ⟨x80, x81, x82, x83, s8⟩ := b8.out.d4
 obtain ⟨x90, x91, x92, x93, s9⟩ := b9.out.d4
 obtain ⟨x100, x101, x102, x103, s10⟩ := b10.out.d4
 have szb := HB8.out.size
 generalize ratV r.data.toList = z at hv
 have HB1 := Lib.hid (OkP.mk hv)
 clear hv
 go_upto_region 5 with (fail)
 have q9 := b7.out.lt
 have q10 := b8.out.lt
 have q11 := b9.out.lt
 have q12 := b10.out.lt
 change Code.wp Tryz.prog _ _ _ ((((W7.alloc (.cells #[.bool k5, .slice A5 l5 c5, .bool m5, .slice E5 p5 q5] 27)).alloc (.cells #[.bool k6, .slice A6 l6 c6, .bool m6, .slice E6 p6 q6] 27)).alloc (.cells #[.bool k7, .slice A7 l7 c7, .bool m7, .slice E7 p7 q7] 35)).alloc (.cells #[.bool k8, .slice A8 l8 c8, .bool m8, .slice E8 p8 q8] 35))
 obtain ⟨nb12, nb13, nb14, nb15, na⟩ := new4 W7 27 [.bool k5, .slice A5 l5 c5, .bool m5, .slice E5 p5 q5] 27 [.bool k6, .slice A6 l6 c6, .bool m6, .slice E6 p6 q6] 35 [.bool k7, .slice A7 l7 c7, .bool m7, .slice E7 p7 q7] 35 [.bool k8, .slice A8 l8 c8, .bool m8, .slice E8 p8 q8] lf4 lf4 lf4 lf4
 have nb7 := b7.out.up na
 have nb8 := b8.out.up na
 have nb9 := b9.out.up na
 have nb10 := b10.out.up na
 have nkeep := Keep.ofBelow na
 have nbel := below_then HB8.out na HB8.out.size
 generalize (((W7.alloc (.cells #[.bool k5, .slice A5 l5 c5, .bool m5, .slice E5 p5 q5] 27)).alloc (.cells #[.bool k6, .slice A6 l6 c6, .bool m6, .slice E6 p6 q6] 27)).alloc (.cells #[.bool k7, .slice A7 l7 c7, .bool m7, .slice E7 p7 q7] 35)).alloc (.cells #[.bool k8, .slice A8 l8 c8, .bool m8, .slice E8 p8 q8] 35) = W13 at *
 clear na x70 x71 x72 x73 x80 x81 x82 x83 x90 x91 x92 x93 x100 x101 x102 x103 szb s7 s8 s9 s10 b7 b8 b9 b10
 have b7 := Lib.hid nb7
 have b8 := Lib.hid nb8
 have b9 := Lib.hid nb9
 have b10 := Lib.hid nb10
 have b12 := Lib.hid nb12
 have b13 := Lib.hid nb13
 have b14 := Lib.hid nb14
 have b15 := Lib.hid nb15
 clear nb7 nb8 nb9 nb10 nb12 nb13 nb14 nb15
 replace HB0 := Lib.hid (HB0.out.kept nkeep)
 replace HB1 := Lib.hid (HB1.out.kept nkeep)
 clear nkeep
 have HB14 := Lib.hid nbel
 clear nbel HB8
 obtain ⟨x70, x71, x72, x73, s7⟩ := b7.out.d4
 obtain ⟨x80, x81, x82, x83, s8⟩ := b8.out.d4
 obtain ⟨x90, x91, x92, x93, s9⟩ := b9.out.d4
 obtain ⟨x100, x101, x102, x103, s10⟩ := b10.out.d4
 obtain ⟨x120, x121, x122, x123, s12⟩ := b12.out.d4
 obtain ⟨x130, x131, x132, x133, s13⟩ := b13.out.d4
 obtain ⟨x140, x141, x142, x143, s14⟩ := b14.out.d4
 obtain ⟨x150, x151, x152, x153, s15⟩ := b15.out.d4
 have szb := HB14.out.size
 cases ok with
 | false =>
  go_wp2_with fail
  have hkeep := (Keep.refl W13)
  have hbel := HB14.out
  refine bodyPost_ret (v := .bool true) (by simp [results, Tryz.results8, go_sem]) rfl ⟨rfl, hbel⟩
 | true =>
  cases ok2 with
  | false =>
   go_wp2_with fail
   have hkeep := (Keep.refl W13)
   have hbel := HB14.out
   refine bodyPost_ret (v := .bool true) (by simp [results, Tryz.results8, go_sem]) rfl ⟨rfl, hbel⟩
  | true =>
   have hh := HB0.out.go rfl
   have HX := Lib.hid hh.1
   have HY := Lib.hid hh.2.1
   clear hh HB0
   have hh := HB1.out.go rfl
   have HZ := Lib.hid hh.1
   clear hh HB1
   obtain ⟨c, hc⟩ : ∃ c, cmpQ x y = c := ⟨_, rfl⟩
   have hrc := cmpQ_range x y
   rw [hc] at hrc
   obtain ⟨sg, hsg⟩ : ∃ c, cmpQ z 0 = c := ⟨_, rfl⟩
   have hrsg := cmpQ_range z 0
   rw [hsg] at hrsg
   obtain ⟨d, hd⟩ : ∃ c, cmpQ y z = c := ⟨_, rfl⟩
   have hrd := cmpQ_range y z
   rw [hd] at hrd
   obtain ⟨f, hf⟩ : ∃ c, cmpQ x z = c := ⟨_, rfl⟩
   have hrf := cmpQ_range x z
   rw [hf] at hrf
   have htr : c ≤ 0 → d ≤ 0 → f ≤ 0 := by rw [← hc, ← hd, ← hf]; exact cmpQ_trans
   have hwn := wrapn hrc
   obtain ⟨m, hm0⟩ : ∃ m, c * sg = m := ⟨_, rfl⟩
   have hm1 : cmpQ (x * z) (y * z) = m := by rw [cmpQ_mulr, hc, hsg, hm0]
   have hwm := (wrapm hrc hrsg).trans hm0
   have hn1 : cmpQ y x = -c := by rw [cmpQ_swap, hc]
   have hs1 : cmpQ (x - y) 0 = c := by rw [cmpQ_sub2, hc]
   have ha1 : cmpQ (x + z) (y + z) = c := by rw [cmpQ_addr, hc]
   have Qhc := Lib.hid hc
   clear hc
   have Qhsg := Lib.hid hsg
   clear hsg
   have Qhd := Lib.hid hd
   clear hd
   have Qhf := Lib.hid hf
   clear hf
   have Qhwn := Lib.hid hwn
   clear hwn
   have Qhwm := Lib.hid hwm
   clear hwm
   have Qhm1 := Lib.hid hm1
   clear hm1
   have Qhn1 := Lib.hid hn1
   clear hn1
   have Qhs1 := Lib.hid hs1
   clear hs1
   have Qha1 := Lib.hid ha1
   clear ha1
   have Qhtr := Lib.hid htr
   clear htr hrc hrsg hrd hrf hm0
   go_wp2_with fail
   refine (ratCmp_is HX.out HY.out (by decide) (by decide) Qhc.out).mono ?_
   rintro e W15 ⟨rfl, hb⟩
   replace b7 := hup b7 hb
   replace b8 := hup b8 hb
   replace b9 := hup b9 hb
   replace b10 := hup b10 hb
   replace b12 := hup b12 hb
   replace b13 := hup b13 hb
   replace b14 := hup b14 hb
   replace b15 := hup b15 hb
   replace HX := Lib.hid (HX.out.kept (Keep.ofBelow hb))
   replace HY := Lib.hid (HY.out.kept (Keep.ofBelow hb))
   replace HZ := Lib.hid (HZ.out.kept (Keep.ofBelow hb))
   have nbel := below_then HB14.out hb HB14.out.size
   have HB16 := Lib.hid nbel
   clear nbel HB14 hb x70 x71 x72 x73 x80 x81 x82 x83 x90 x91 x92 x93 x100 x101 x102 x103 x120 x121 x122 x123 x130 x131 x132 x133 x140 x141 x142 x143 x150 x151 x152 x153 szb s7 s8 s9 s10 s12 s13 s14 s15
   obtain ⟨x70, x71, x72, x73, s7⟩ := b7.out.d4
   obtain ⟨x80, x81, x82, x83, s8⟩ := b8.out.d4
   obtain ⟨x90, x91, x92, x93, s9⟩ := b9.out.d4
   obtain ⟨x100, x101, x102, x103, s10⟩ := b10.out.d4
   obtain ⟨x120, x121, x122, x123, s12⟩ := b12.out.d4
   obtain ⟨x130, x131, x132, x133, s13⟩ := b13.out.d4
   obtain ⟨x140, x141, x142, x143, s14⟩ := b14.out.d4
   obtain ⟨x150, x151, x152, x153, s15⟩ := b15.out.d4
   have szb := HB16.out.size
   go_upto_region 8 with (fail)
   refine AS.region_facts (orderFL x y z c) (JNo W15) [[], [], [], [47, 48], [49], [46, 50], [51], [52], [52], [52, 53, 54], [52], [52, 56], [52, 55, 57], [52, 58], [59], [60], [60], [60, 61, 62], [60], [60], [60, 64, 65], [60, 63, 66], [60], [60, 67, 68], [60, 69]] [] [[]] [0, 0, 0, 0, 0, 0, 0, 0, 0, 0, 0, 0, 0, 0, 0, 0, 0, 0, 0, 0, 0, 0, 0, 0, 0] [] (fun u => by simp only [orderFL, AS.temps, List.map_cons, List.map_nil, fillL, List.setIfInBounds_toArray, List.set_cons_zero, List.set_cons_succ]; rfl) (by kernel_rfl) (by kernel_rfl) (JNo.st W15) (below_drew (Below.refl _ _)) ?_ ?_
   ·refine AS.sc rfl rfl rfl ?_ ?_
    ·intro k_ u w_ hk hJ hF K hK
     clear hF
     go_simp
     exact hK.out _ _ (Below.refl _ _) (rfl) trivial
    refine AS.sc rfl rfl rfl ?_ ?_
    ·intro k_ u w_ hk hJ hF K hK
     clear hF
     obtain rfl : k_ = 0 := Nat.le_zero.1 hk
     have hJ0 : Below W15.heap.size W15 w_ := hJ
     obtain ⟨y0, y1, y2, y3⟩ := ((b7.out).up hJ0).c4
     go_simp
     exact hK.out _ _ (Below.refl _ _) ((HX.out).kept (Keep.ofBelow hJ0)) trivial
    refine AS.sc rfl rfl rfl ?_ ?_
    ·intro k_ u w_ hk hJ hF K hK
     clear hF
     obtain rfl : k_ = 0 := Nat.le_zero.1 hk
     have hJ0 : Below W15.heap.size W15 w_ := hJ
     obtain ⟨y0, y1, y2, y3⟩ := ((b8.out).up hJ0).c4
     go_simp
     exact hK.out _ _ (Below.refl _ _) ((HY.out).kept (Keep.ofBelow hJ0)) trivial
    refine AS.sc rfl rfl rfl ?_ ?_
    ·intro k_ u w_ hk hJ hF K hK
     have h47 : PRat (x) 223 (u 47) w_ := AS.facts_get hF 47 (by simp)
     have h48 : PRat (y) 223 (u 48) w_ := AS.facts_get hF 48 (by simp)
     clear hF
     go_simp
     refine (ratSub_fact (n := 223) (h47.more (by decide)) (h48.more (by decide)) (by decide) (by decide)).mono ?_
     rintro e w' ⟨v, rfl, hv, hb⟩
     exact hK.out _ _ hb (hv.more (by decide)) trivial
    refine AS.sc rfl rfl rfl ?_ ?_
    ·intro k_ u w_ hk hJ hF K hK
     have h49 : PRat (x - y) 898 (u 49) w_ := AS.facts_get hF 49 (by simp)
     clear hF
     go_simp
     refine (ratSign_is h49 Qhs1.out).mono ?_
     rintro e w' ⟨rfl, hb⟩
     exact hK.out _ _ hb (rfl) trivial
    refine AS.sc rfl rfl rfl ?_ ?_
    ·intro k_ u w_ hk hJ hF K hK
     have h46 : u 46 = .int .i64 (c) := AS.facts_get hF 46 (by simp)
     have h50 : u 50 = .int .i64 (c) := AS.facts_get hF 50 (by simp)
     clear hF
     simp only [h46, h50] at hK ⊢
     clear h46 h50
     go_simp
     exact hK.out _ _ (Below.refl _ _) (rfl) trivial
    refine AS.sc rfl rfl rfl ?_ ?_
    ·intro k_ u w_ hk hJ hF K hK
     have h51 : u 51 = .bool false := AS.facts_get hF 51 (by simp)
     clear hF
     simp only [h51] at hK ⊢
     clear h51
     go_simp
     exact hK.out _ _ (Below.refl _ _) (rfl) trivial
    refine AS.sc rfl rfl rfl ?_ ?_
    ·intro k_ u w_ hk hJ hF K hK
     have h52 : u 52 = .bool false := AS.facts_get hF 52 (by simp)
     clear hF
     simp only [h52] at hK ⊢
     clear h52
     obtain rfl : k_ = 0 := Nat.le_zero.1 hk
     have hJ0 : Below W15.heap.size W15 w_ := hJ
     obtain ⟨y0, y1, y2, y3⟩ := ((b8.out).up hJ0).c4
     go_simp
     exact hK.out _ _ (Below.refl _ _) ((HY.out).kept (Keep.ofBelow hJ0)) trivial
    refine AS.sc rfl rfl rfl ?_ ?_
    ·intro k_ u w_ hk hJ hF K hK
     have h52 : u 52 = .bool false := AS.facts_get hF 52 (by simp)
     clear hF
     simp only [h52] at hK ⊢
     clear h52
     obtain rfl : k_ = 0 := Nat.le_zero.1 hk
     have hJ0 : Below W15.heap.size W15 w_ := hJ
     obtain ⟨y0, y1, y2, y3⟩ := ((b7.out).up hJ0).c4
     go_simp
     exact hK.out _ _ (Below.refl _ _) ((HX.out).kept (Keep.ofBelow hJ0)) trivial
    refine AS.sc rfl rfl rfl ?_ ?_
    ·intro k_ u w_ hk hJ hF K hK
     have h52 : u 52 = .bool false := AS.facts_get hF 52 (by simp)
     have h53 : PRat (y) 223 (u 53) w_ := AS.facts_get hF 53 (by simp)
     have h54 : PRat (x) 223 (u 54) w_ := AS.facts_get hF 54 (by simp)
     clear hF
     simp only [h52] at hK ⊢
     clear h52
     go_simp
     refine (ratCmp_is (n := 223) (h53.more (by decide)) (h54.more (by decide)) (by decide) (by decide) Qhn1.out).mono ?_
     rintro e w' ⟨rfl, hb⟩
     exact hK.out _ _ hb (rfl) trivial
    refine AS.sc rfl rfl rfl ?_ ?_
    ·intro k_ u w_ hk hJ hF K hK
     have h52 : u 52 = .bool false := AS.facts_get hF 52 (by simp)
     clear hF
     simp only [h52] at hK ⊢
     clear h52
     go_simp
     exact hK.out _ _ (Below.refl _ _) (rfl) trivial
    refine AS.sc rfl rfl rfl ?_ ?_
    ·intro k_ u w_ hk hJ hF K hK
     have h52 : u 52 = .bool false := AS.facts_get hF 52 (by simp)
     have h56 : u 56 = .int .i64 (c) := AS.facts_get hF 56 (by simp)
     clear hF
     simp only [h52, h56] at hK ⊢
     clear h52 h56
     have hw := Qhwn.out
     go_simp
     exact hK.out _ _ (Below.refl _ _) (rfl) trivial
    refine AS.sc rfl rfl rfl ?_ ?_
    ·intro k_ u w_ hk hJ hF K hK
     have h52 : u 52 = .bool false := AS.facts_get hF 52 (by simp)
     have h55 : u 55 = .int .i64 (-c) := AS.facts_get hF 55 (by simp)
     have h57 : u 57 = .int .i64 (-c) := AS.facts_get hF 57 (by simp)
     clear hF
     simp only [h52, h55, h57] at hK ⊢
     clear h52 h55 h57
     go_simp
     exact hK.out _ _ (Below.refl _ _) (rfl) trivial
    refine AS.sc rfl rfl rfl ?_ ?_
    ·intro k_ u w_ hk hJ hF K hK
     have h52 : u 52 = .bool false := AS.facts_get hF 52 (by simp)
     have h58 : u 58 = .bool false := AS.facts_get hF 58 (by simp)
     clear hF
     simp only [h52, h58] at hK ⊢
     clear h52 h58
     go_simp
     exact hK.out _ _ (Below.refl _ _) (rfl) trivial
    refine AS.sc rfl rfl rfl ?_ ?_
    ·intro k_ u w_ hk hJ hF K hK
     have h59 : u 59 = .bool false := AS.facts_get hF 59 (by simp)
     clear hF
     simp only [h59] at hK ⊢
     clear h59
     go_simp
     exact hK.out _ _ (Below.refl _ _) (rfl) trivial
    refine AS.sc rfl rfl rfl ?_ ?_
    ·intro k_ u w_ hk hJ hF K hK
     have h60 : u 60 = .bool false := AS.facts_get hF 60 (by simp)
     clear hF
     simp only [h60] at hK ⊢
     clear h60
     obtain rfl : k_ = 0 := Nat.le_zero.1 hk
     have hJ0 : Below W15.heap.size W15 w_ := hJ
     obtain ⟨y0, y1, y2, y3⟩ := ((b7.out).up hJ0).c4
     go_simp
     exact hK.out _ _ (Below.refl _ _) ((HX.out).kept (Keep.ofBelow hJ0)) trivial
    refine AS.sc rfl rfl rfl ?_ ?_
    ·intro k_ u w_ hk hJ hF K hK
     have h60 : u 60 = .bool false := AS.facts_get hF 60 (by simp)
     clear hF
     simp only [h60] at hK ⊢
     clear h60
     obtain rfl : k_ = 0 := Nat.le_zero.1 hk
     have hJ0 : Below W15.heap.size W15 w_ := hJ
     obtain ⟨y0, y1, y2, y3⟩ := ((b12.out).up hJ0).c4
     go_simp
     exact hK.out _ _ (Below.refl _ _) ((HZ.out).kept (Keep.ofBelow hJ0)) trivial
    refine AS.sc rfl rfl rfl ?_ ?_
    ·intro k_ u w_ hk hJ hF K hK
     have h60 : u 60 = .bool false := AS.facts_get hF 60 (by simp)
     have h61 : PRat (x) 223 (u 61) w_ := AS.facts_get hF 61 (by simp)
     have h62 : PRat (z) 223 (u 62) w_ := AS.facts_get hF 62 (by simp)
     clear hF
     simp only [h60] at hK ⊢
     clear h60
     go_simp
     refine (ratAdd_fact (n := 223) (h61.more (by decide)) (h62.more (by decide)) (by decide) (by decide)).mono ?_
     rintro e w' ⟨v, rfl, hv, hb⟩
     exact hK.out _ _ hb (hv) trivial
    refine AS.sc rfl rfl rfl ?_ ?_
    ·intro k_ u w_ hk hJ hF K hK
     have h60 : u 60 = .bool false := AS.facts_get hF 60 (by simp)
     clear hF
     simp only [h60] at hK ⊢
     clear h60
     obtain rfl : k_ = 0 := Nat.le_zero.1 hk
     have hJ0 : Below W15.heap.size W15 w_ := hJ
     obtain ⟨y0, y1, y2, y3⟩ := ((b8.out).up hJ0).c4
     go_simp
     exact hK.out _ _ (Below.refl _ _) ((HY.out).kept (Keep.ofBelow hJ0)) trivial
    refine AS.sc rfl rfl rfl ?_ ?_
    ·intro k_ u w_ hk hJ hF K hK
     have h60 : u 60 = .bool false := AS.facts_get hF 60 (by simp)
     clear hF
     simp only [h60] at hK ⊢
     clear h60
     obtain rfl : k_ = 0 := Nat.le_zero.1 hk
     have hJ0 : Below W15.heap.size W15 w_ := hJ
     obtain ⟨y0, y1, y2, y3⟩ := ((b12.out).up hJ0).c4
     go_simp
     exact hK.out _ _ (Below.refl _ _) ((HZ.out).kept (Keep.ofBelow hJ0)) trivial
    refine AS.sc rfl rfl rfl ?_ ?_
    ·intro k_ u w_ hk hJ hF K hK
     have h60 : u 60 = .bool false := AS.facts_get hF 60 (by simp)
     have h64 : PRat (y) 223 (u 64) w_ := AS.facts_get hF 64 (by simp)
     have h65 : PRat (z) 223 (u 65) w_ := AS.facts_get hF 65 (by simp)
     clear hF
     simp only [h60] at hK ⊢
     clear h60
     go_simp
     refine (ratAdd_fact (n := 223) (h64.more (by decide)) (h65.more (by decide)) (by decide) (by decide)).mono ?_
     rintro e w' ⟨v, rfl, hv, hb⟩
     exact hK.out _ _ hb (hv) trivial
    refine AS.sc rfl rfl rfl ?_ ?_
    ·intro k_ u w_ hk hJ hF K hK
     have h60 : u 60 = .bool false := AS.facts_get hF 60 (by simp)
     have h63 : PRat (x + z) 894 (u 63) w_ := AS.facts_get hF 63 (by simp)
     have h66 : PRat (y + z) 894 (u 66) w_ := AS.facts_get hF 66 (by simp)
     clear hF
     simp only [h60] at hK ⊢
     clear h60
     go_simp
     refine (ratCmp_is (n := 894) (h63.more (by decide)) (h66.more (by decide)) (by decide) (by decide) Qha1.out).mono ?_
     rintro e w' ⟨rfl, hb⟩
     exact hK.out _ _ hb (rfl) trivial
    refine AS.sc rfl rfl rfl ?_ ?_
    ·intro k_ u w_ hk hJ hF K hK
     have h60 : u 60 = .bool false := AS.facts_get hF 60 (by simp)
     clear hF
     simp only [h60] at hK ⊢
     clear h60
     go_simp
     exact hK.out _ _ (Below.refl _ _) (rfl) trivial
    refine AS.sc rfl rfl rfl ?_ ?_
    ·intro k_ u w_ hk hJ hF K hK
     have h60 : u 60 = .bool false := AS.facts_get hF 60 (by simp)
     have h67 : u 67 = .int .i64 (c) := AS.facts_get hF 67 (by simp)
     have h68 : u 68 = .int .i64 (c) := AS.facts_get hF 68 (by simp)
     clear hF
     simp only [h60, h67, h68] at hK ⊢
     clear h60 h67 h68
     go_simp
     exact hK.out _ _ (Below.refl _ _) (rfl) trivial
    refine AS.sc rfl rfl rfl ?_ ?_
    ·intro k_ u w_ hk hJ hF K hK
     have h60 : u 60 = .bool false := AS.facts_get hF 60 (by simp)
     have h69 : u 69 = .bool false := AS.facts_get hF 69 (by simp)
     clear hF
     simp only [h60, h69] at hK ⊢
     clear h60 h69
     go_simp
     exact hK.out _ _ (Below.refl _ _) (rfl) trivial
    exact AS.StepsOk.nil
   ·intro u W17 hJ9 hF
    have h70 : u 70 = .bool false := AS.facts_get hF 70 (by simp [orderFL, AS.temps])
    clear hF
    rw [show u 70 = _ from h70]
    clear h70
    replace b7 := hup b7 hJ9
    replace b8 := hup b8 hJ9
    replace b9 := hup b9 hJ9
    replace b10 := hup b10 hJ9
    replace b12 := hup b12 hJ9
    replace b13 := hup b13 hJ9
    replace b14 := hup b14 hJ9
    replace b15 := hup b15 hJ9
    replace HX := Lib.hid (HX.out.kept (Keep.ofBelow hJ9))
    replace HY := Lib.hid (HY.out.kept (Keep.ofBelow hJ9))
    replace HZ := Lib.hid (HZ.out.kept (Keep.ofBelow hJ9))
    have nbel := below_then HB16.out hJ9 HB16.out.size
    have HB18 := Lib.hid nbel
    clear nbel HB16 hJ9 x70 x71 x72 x73 x80 x81 x82 x83 x90 x91 x92 x93 x100 x101 x102 x103 x120 x121 x122 x123 x130 x131 x132 x133 x140 x141 x142 x143 x150 x151 x152 x153 szb s7 s8 s9 s10 s12 s13 s14 s15
    obtain ⟨x70, x71, x72, x73, s7⟩ := b7.out.d4
    obtain ⟨x80, x81, x82, x83, s8⟩ := b8.out.d4
    obtain ⟨x90, x91, x92, x93, s9⟩ := b9.out.d4
    obtain ⟨x100, x101, x102, x103, s10⟩ := b10.out.d4
    obtain ⟨x120, x121, x122, x123, s12⟩ := b12.out.d4
    obtain ⟨x130, x131, x132, x133, s13⟩ := b13.out.d4
    obtain ⟨x140, x141, x142, x143, s14⟩ := b14.out.d4
    obtain ⟨x150, x151, x152, x153, s15⟩ := b15.out.d4
    have szb := HB18.out.size
    go_upto_region 10 with (fail)
    by_cases hcz : decide (0 < c) = true
    ·refine AS.region_facts (orderFLA x y z c sg d f m) (JNo W17) [[], [], [71, 72], [], [], [74, 75], [73, 76], [], [], [79], [78, 80], [77, 81], [82], [83], [83, 84], [83, 85], [86], [86], [86], [86], [83, 86, 90], [83, 91], [92], [92], [92], [92], [83, 92, 96], [83, 97], [98]] [] [[]] [0, 0, 0, 0, 0, 0, 0, 0, 0, 0, 0, 0, 0, 0, 0, 0, 0, 0, 0, 0, 0, 0, 0, 0, 0, 0, 0, 0, 0] [] (fun u => by simp only [orderFLA, AS.temps, List.map_cons, List.map_nil, fillL, List.setIfInBounds_toArray, List.set_cons_zero, List.set_cons_succ]; rfl) (by kernel_rfl) (by kernel_rfl) (JNo.st W17) (below_drew (Below.refl _ _)) ?_ ?_
     ·refine AS.sc rfl rfl rfl ?_ ?_
      ·intro k_ u w_ hk hJ hF K hK
       clear hF
       obtain rfl : k_ = 0 := Nat.le_zero.1 hk
       have hJ0 : Below W17.heap.size W17 w_ := hJ
       obtain ⟨y0, y1, y2, y3⟩ := ((b7.out).up hJ0).c4
       go_simp
       exact hK.out _ _ (Below.refl _ _) ((HX.out).kept (Keep.ofBelow hJ0)) trivial
      refine AS.sc rfl rfl rfl ?_ ?_
      ·intro k_ u w_ hk hJ hF K hK
       clear hF
       obtain rfl : k_ = 0 := Nat.le_zero.1 hk
       have hJ0 : Below W17.heap.size W17 w_ := hJ
       obtain ⟨y0, y1, y2, y3⟩ := ((b12.out).up hJ0).c4
       go_simp
       exact hK.out _ _ (Below.refl _ _) ((HZ.out).kept (Keep.ofBelow hJ0)) trivial
      refine AS.sc rfl rfl rfl ?_ ?_
      ·intro k_ u w_ hk hJ hF K hK
       have h71 : PRat (x) 223 (u 71) w_ := AS.facts_get hF 71 (by simp)
       have h72 : PRat (z) 223 (u 72) w_ := AS.facts_get hF 72 (by simp)
       clear hF
       go_simp
       refine (ratMul_fact (n := 223) (h71.more (by decide)) (h72.more (by decide)) (by decide) (by decide)).mono ?_
       rintro e w' ⟨v, rfl, hv, hb⟩
       exact hK.out _ _ hb (hv) trivial
      refine AS.sc rfl rfl rfl ?_ ?_
      ·intro k_ u w_ hk hJ hF K hK
       clear hF
       obtain rfl : k_ = 0 := Nat.le_zero.1 hk
       have hJ0 : Below W17.heap.size W17 w_ := hJ
       obtain ⟨y0, y1, y2, y3⟩ := ((b8.out).up hJ0).c4
       go_simp
       exact hK.out _ _ (Below.refl _ _) ((HY.out).kept (Keep.ofBelow hJ0)) trivial
      refine AS.sc rfl rfl rfl ?_ ?_
      ·intro k_ u w_ hk hJ hF K hK
       clear hF
       obtain rfl : k_ = 0 := Nat.le_zero.1 hk
       have hJ0 : Below W17.heap.size W17 w_ := hJ
       obtain ⟨y0, y1, y2, y3⟩ := ((b12.out).up hJ0).c4
       go_simp
       exact hK.out _ _ (Below.refl _ _) ((HZ.out).kept (Keep.ofBelow hJ0)) trivial
      refine AS.sc rfl rfl rfl ?_ ?_
      ·intro k_ u w_ hk hJ hF K hK
       have h74 : PRat (y) 223 (u 74) w_ := AS.facts_get hF 74 (by simp)
       have h75 : PRat (z) 223 (u 75) w_ := AS.facts_get hF 75 (by simp)
       clear hF
       go_simp
       refine (ratMul_fact (n := 223) (h74.more (by decide)) (h75.more (by decide)) (by decide) (by decide)).mono ?_
       rintro e w' ⟨v, rfl, hv, hb⟩
       exact hK.out _ _ hb (hv) trivial
      refine AS.sc rfl rfl rfl ?_ ?_
      ·intro k_ u w_ hk hJ hF K hK
       have h73 : PRat (x * z) 447 (u 73) w_ := AS.facts_get hF 73 (by simp)
       have h76 : PRat (y * z) 447 (u 76) w_ := AS.facts_get hF 76 (by simp)
       clear hF
       go_simp
       refine (ratCmp_is (n := 447) (h73.more (by decide)) (h76.more (by decide)) (by decide) (by decide) Qhm1.out).mono ?_
       rintro e w' ⟨rfl, hb⟩
       exact hK.out _ _ hb (rfl) trivial
      refine AS.sc rfl rfl rfl ?_ ?_
      ·intro k_ u w_ hk hJ hF K hK
       clear hF
       go_simp
       exact hK.out _ _ (Below.refl _ _) (rfl) trivial
      refine AS.sc rfl rfl rfl ?_ ?_
      ·intro k_ u w_ hk hJ hF K hK
       clear hF
       obtain rfl : k_ = 0 := Nat.le_zero.1 hk
       have hJ0 : Below W17.heap.size W17 w_ := hJ
       obtain ⟨y0, y1, y2, y3⟩ := ((b12.out).up hJ0).c4
       go_simp
       exact hK.out _ _ (Below.refl _ _) ((HZ.out).kept (Keep.ofBelow hJ0)) trivial
      refine AS.sc rfl rfl rfl ?_ ?_
      ·intro k_ u w_ hk hJ hF K hK
       have h79 : PRat (z) 223 (u 79) w_ := AS.facts_get hF 79 (by simp)
       clear hF
       go_simp
       refine (ratSign_is h79 Qhsg.out).mono ?_
       rintro e w' ⟨rfl, hb⟩
       exact hK.out _ _ hb (rfl) trivial
      refine AS.sc rfl rfl rfl ?_ ?_
      ·intro k_ u w_ hk hJ hF K hK
       have h78 : u 78 = .int .i64 (c) := AS.facts_get hF 78 (by simp)
       have h80 : u 80 = .int .i64 (sg) := AS.facts_get hF 80 (by simp)
       clear hF
       simp only [h78, h80] at hK ⊢
       clear h78 h80
       have hw := Qhwm.out
       go_simp
       exact hK.out _ _ (Below.refl _ _) (rfl) trivial
      refine AS.sc rfl rfl rfl ?_ ?_
      ·intro k_ u w_ hk hJ hF K hK
       have h77 : u 77 = .int .i64 (m) := AS.facts_get hF 77 (by simp)
       have h81 : u 81 = .int .i64 (m) := AS.facts_get hF 81 (by simp)
       clear hF
       simp only [h77, h81] at hK ⊢
       clear h77 h81
       go_simp
       exact hK.out _ _ (Below.refl _ _) (rfl) trivial
      refine AS.sc rfl rfl rfl ?_ ?_
      ·intro k_ u w_ hk hJ hF K hK
       have h82 : u 82 = .bool true := AS.facts_get hF 82 (by simp)
       clear hF
       simp only [h82] at hK ⊢
       clear h82
       go_simp
       exact hK.out _ _ (Below.refl _ _) (rfl) trivial
      refine AS.sc rfl rfl rfl ?_ ?_
      ·intro k_ u w_ hk hJ hF K hK
       have h83 : u 83 = .bool true := AS.facts_get hF 83 (by simp)
       clear hF
       simp only [h83] at hK ⊢
       clear h83
       go_simp
       exact hK.out _ _ (Below.refl _ _) (rfl) trivial
      refine AS.sc rfl rfl rfl ?_ ?_
      ·intro k_ u w_ hk hJ hF K hK
       have h83 : u 83 = .bool true := AS.facts_get hF 83 (by simp)
       have h84 : u 84 = .int .i64 (c) := AS.facts_get hF 84 (by simp)
       clear hF
       simp only [h83, h84] at hK ⊢
       clear h83 h84
       go_simp
       exact hK.out _ _ (Below.refl _ _) (rfl) trivial
      refine AS.sc rfl rfl rfl ?_ ?_
      ·intro k_ u w_ hk hJ hF K hK
       have h83 : u 83 = .bool true := AS.facts_get hF 83 (by simp)
       have h85 : u 85 = .bool true := AS.facts_get hF 85 (by simp)
       clear hF
       simp only [h83, h85] at hK ⊢
       clear h83 h85
       go_simp
       exact hK.out _ _ (Below.refl _ _) (rfl) trivial
      refine AS.sc rfl rfl rfl ?_ ?_
      ·intro k_ u w_ hk hJ hF K hK
       have h86 : u 86 = .bool true := AS.facts_get hF 86 (by simp)
       clear hF
       simp only [h86] at hK ⊢
       clear h86
       go_simp
       exact hK.out _ _ (Below.refl _ _) (rfl) trivial
      refine AS.sc rfl rfl rfl ?_ ?_
      ·intro k_ u w_ hk hJ hF K hK
       have h86 : u 86 = .bool true := AS.facts_get hF 86 (by simp)
       clear hF
       simp only [h86] at hK ⊢
       clear h86
       go_simp
       exact hK.out _ _ (Below.refl _ _) (rfl) trivial
      refine AS.sc rfl rfl rfl ?_ ?_
      ·intro k_ u w_ hk hJ hF K hK
       have h86 : u 86 = .bool true := AS.facts_get hF 86 (by simp)
       clear hF
       simp only [h86] at hK ⊢
       clear h86
       go_simp
       exact hK.out _ _ (Below.refl _ _) (rfl) trivial
      refine AS.sc rfl rfl rfl ?_ ?_
      ·intro k_ u w_ hk hJ hF K hK
       have h86 : u 86 = .bool true := AS.facts_get hF 86 (by simp)
       clear hF
       simp only [h86] at hK ⊢
       clear h86
       go_simp
       exact hK.out _ _ (Below.refl _ _) (rfl) trivial
      refine AS.sc rfl rfl rfl ?_ ?_
      ·intro k_ u w_ hk hJ hF K hK
       have h83 : u 83 = .bool true := AS.facts_get hF 83 (by simp)
       have h86 : u 86 = .bool true := AS.facts_get hF 86 (by simp)
       have h90 : u 90 = undef := AS.facts_get hF 90 (by simp)
       clear hF
       simp only [h83, h86, h90] at hK ⊢
       clear h83 h86 h90
       go_simp
       exact hK.out _ _ (Below.refl _ _) (rfl) trivial
      refine AS.sc rfl rfl rfl ?_ ?_
      ·intro k_ u w_ hk hJ hF K hK
       have h83 : u 83 = .bool true := AS.facts_get hF 83 (by simp)
       have h91 : u 91 = .bool true := AS.facts_get hF 91 (by simp)
       clear hF
       simp only [h83, h91] at hK ⊢
       clear h83 h91
       go_simp
       exact hK.out _ _ (Below.refl _ _) (rfl) trivial
      refine AS.sc rfl rfl rfl ?_ ?_
      ·intro k_ u w_ hk hJ hF K hK
       have h92 : u 92 = .bool true := AS.facts_get hF 92 (by simp)
       clear hF
       simp only [h92] at hK ⊢
       clear h92
       go_simp
       exact hK.out _ _ (Below.refl _ _) (rfl) trivial
      refine AS.sc rfl rfl rfl ?_ ?_
      ·intro k_ u w_ hk hJ hF K hK
       have h92 : u 92 = .bool true := AS.facts_get hF 92 (by simp)
       clear hF
       simp only [h92] at hK ⊢
       clear h92
       go_simp
       exact hK.out _ _ (Below.refl _ _) (rfl) trivial
      refine AS.sc rfl rfl rfl ?_ ?_
      ·intro k_ u w_ hk hJ hF K hK
       have h92 : u 92 = .bool true := AS.facts_get hF 92 (by simp)
       clear hF
       simp only [h92] at hK ⊢
       clear h92
       go_simp
       exact hK.out _ _ (Below.refl _ _) (rfl) trivial
      refine AS.sc rfl rfl rfl ?_ ?_
      ·intro k_ u w_ hk hJ hF K hK
       have h92 : u 92 = .bool true := AS.facts_get hF 92 (by simp)
       clear hF
       simp only [h92] at hK ⊢
       clear h92
       go_simp
       exact hK.out _ _ (Below.refl _ _) (rfl) trivial
      refine AS.sc rfl rfl rfl ?_ ?_
      ·intro k_ u w_ hk hJ hF K hK
       have h83 : u 83 = .bool true := AS.facts_get hF 83 (by simp)
       have h92 : u 92 = .bool true := AS.facts_get hF 92 (by simp)
       have h96 : u 96 = undef := AS.facts_get hF 96 (by simp)
       clear hF
       simp only [h83, h92, h96] at hK ⊢
       clear h83 h92 h96
       go_simp
       exact hK.out _ _ (Below.refl _ _) (rfl) trivial
      refine AS.sc rfl rfl rfl ?_ ?_
      ·intro k_ u w_ hk hJ hF K hK
       have h83 : u 83 = .bool true := AS.facts_get hF 83 (by simp)
       have h97 : u 97 = .bool true := AS.facts_get hF 97 (by simp)
       clear hF
       simp only [h83, h97] at hK ⊢
       clear h83 h97
       go_simp
       exact hK.out _ _ (Below.refl _ _) (rfl) trivial
      refine AS.sc rfl rfl rfl ?_ ?_
      ·intro k_ u w_ hk hJ hF K hK
       have h98 : u 98 = .bool true := AS.facts_get hF 98 (by simp)
       clear hF
       simp only [h98] at hK ⊢
       clear h98
       go_simp
       exact hK.out _ _ (Below.refl _ _) (rfl) trivial
      exact AS.StepsOk.nil
     ·intro u W19 hJ9 hF
      have h6 : u 6 = .bool true := AS.facts_get hF 6 (by simp [orderFLA, AS.temps])
      clear hF
      rw [show u 6 = _ from h6]
      clear h6
      replace b7 := hup b7 hJ9
      replace b8 := hup b8 hJ9
      replace b9 := hup b9 hJ9
      replace b10 := hup b10 hJ9
      replace b12 := hup b12 hJ9
      replace b13 := hup b13 hJ9
      replace b14 := hup b14 hJ9
      replace b15 := hup b15 hJ9
      replace HX := Lib.hid (HX.out.kept (Keep.ofBelow hJ9))
      replace HY := Lib.hid (HY.out.kept (Keep.ofBelow hJ9))
      replace HZ := Lib.hid (HZ.out.kept (Keep.ofBelow hJ9))
      have nbel := below_then HB18.out hJ9 HB18.out.size
      have HB20 := Lib.hid nbel
      clear nbel HB18 hJ9 x70 x71 x72 x73 x80 x81 x82 x83 x90 x91 x92 x93 x100 x101 x102 x103 x120 x121 x122 x123 x130 x131 x132 x133 x140 x141 x142 x143 x150 x151 x152 x153 szb s7 s8 s9 s10 s12 s13 s14 s15
      obtain ⟨x70, x71, x72, x73, s7⟩ := b7.out.d4
      obtain ⟨x80, x81, x82, x83, s8⟩ := b8.out.d4
      obtain ⟨x90, x91, x92, x93, s9⟩ := b9.out.d4
      obtain ⟨x100, x101, x102, x103, s10⟩ := b10.out.d4
      obtain ⟨x120, x121, x122, x123, s12⟩ := b12.out.d4
      obtain ⟨x130, x131, x132, x133, s13⟩ := b13.out.d4
      obtain ⟨x140, x141, x142, x143, s14⟩ := b14.out.d4
      obtain ⟨x150, x151, x152, x153, s15⟩ := b15.out.d4
      have szb := HB20.out.size
      go_wp2_with fail
      have hkeep := (Keep.refl W19)
      have hbel := HB20.out
      refine bodyPost_ret (v := .bool true) (by simp [results, Tryz.results8, go_sem]) rfl ⟨rfl, hbel⟩
    ·rw [Bool.not_eq_true] at hcz
     by_cases hdz : decide (0 < d) = true
     ·refine AS.region_facts (orderFLB x y z c sg d f m) (JNo W17) [[], [], [71, 72], [], [], [74, 75], [73, 76], [], [], [79], [78, 80], [77, 81], [82], [83], [83, 84], [83, 85], [86], [86], [86, 87, 88], [86, 89], [83, 86, 90], [83, 91], [92], [92], [92], [92], [83, 92, 96], [83, 97], [98]] [] [[]] [0, 0, 0, 0, 0, 0, 0, 0, 0, 0, 0, 0, 0, 0, 0, 0, 0, 0, 0, 0, 0, 0, 0, 0, 0, 0, 0, 0, 0] [] (fun u => by simp only [orderFLB, AS.temps, List.map_cons, List.map_nil, fillL, List.setIfInBounds_toArray, List.set_cons_zero, List.set_cons_succ]; rfl) (by kernel_rfl) (by kernel_rfl) (JNo.st W17) (below_drew (Below.refl _ _)) ?_ ?_
      ·refine AS.sc rfl rfl rfl ?_ ?_
       ·intro k_ u w_ hk hJ hF K hK
        clear hF
        obtain rfl : k_ = 0 := Nat.le_zero.1 hk
        have hJ0 : Below W17.heap.size W17 w_ := hJ
        obtain ⟨y0, y1, y2, y3⟩ := ((b7.out).up hJ0).c4
        go_simp
        exact hK.out _ _ (Below.refl _ _) ((HX.out).kept (Keep.ofBelow hJ0)) trivial
       refine AS.sc rfl rfl rfl ?_ ?_
       ·intro k_ u w_ hk hJ hF K hK
        clear hF
        obtain rfl : k_ = 0 := Nat.le_zero.1 hk
        have hJ0 : Below W17.heap.size W17 w_ := hJ
        obtain ⟨y0, y1, y2, y3⟩ := ((b12.out).up hJ0).c4
        go_simp
        exact hK.out _ _ (Below.refl _ _) ((HZ.out).kept (Keep.ofBelow hJ0)) trivial
       refine AS.sc rfl rfl rfl ?_ ?_
       ·intro k_ u w_ hk hJ hF K hK
        have h71 : PRat (x) 223 (u 71) w_ := AS.facts_get hF 71 (by simp)
        have h72 : PRat (z) 223 (u 72) w_ := AS.facts_get hF 72 (by simp)
        clear hF
        go_simp
        refine (ratMul_fact (n := 223) (h71.more (by decide)) (h72.more (by decide)) (by decide) (by decide)).mono ?_
        rintro e w' ⟨v, rfl, hv, hb⟩
        exact hK.out _ _ hb (hv) trivial
       refine AS.sc rfl rfl rfl ?_ ?_
       ·intro k_ u w_ hk hJ hF K hK
        clear hF
        obtain rfl : k_ = 0 := Nat.le_zero.1 hk
        have hJ0 : Below W17.heap.size W17 w_ := hJ
        obtain ⟨y0, y1, y2, y3⟩ := ((b8.out).up hJ0).c4
        go_simp
        exact hK.out _ _ (Below.refl _ _) ((HY.out).kept (Keep.ofBelow hJ0)) trivial
       refine AS.sc rfl rfl rfl ?_ ?_
       ·intro k_ u w_ hk hJ hF K hK
        clear hF
        obtain rfl : k_ = 0 := Nat.le_zero.1 hk
        have hJ0 : Below W17.heap.size W17 w_ := hJ
        obtain ⟨y0, y1, y2, y3⟩ := ((b12.out).up hJ0).c4
        go_simp
        exact hK.out _ _ (Below.refl _ _) ((HZ.out).kept (Keep.ofBelow hJ0)) trivial
       refine AS.sc rfl rfl rfl ?_ ?_
       ·intro k_ u w_ hk hJ hF K hK
        have h74 : PRat (y) 223 (u 74) w_ := AS.facts_get hF 74 (by simp)
        have h75 : PRat (z) 223 (u 75) w_ := AS.facts_get hF 75 (by simp)
        clear hF
        go_simp
        refine (ratMul_fact (n := 223) (h74.more (by decide)) (h75.more (by decide)) (by decide) (by decide)).mono ?_
        rintro e w' ⟨v, rfl, hv, hb⟩
        exact hK.out _ _ hb (hv) trivial
       refine AS.sc rfl rfl rfl ?_ ?_
       ·intro k_ u w_ hk hJ hF K hK
        have h73 : PRat (x * z) 447 (u 73) w_ := AS.facts_get hF 73 (by simp)
        have h76 : PRat (y * z) 447 (u 76) w_ := AS.facts_get hF 76 (by simp)
        clear hF
        go_simp
        refine (ratCmp_is (n := 447) (h73.more (by decide)) (h76.more (by decide)) (by decide) (by decide) Qhm1.out).mono ?_
        rintro e w' ⟨rfl, hb⟩
        exact hK.out _ _ hb (rfl) trivial
       refine AS.sc rfl rfl rfl ?_ ?_
       ·intro k_ u w_ hk hJ hF K hK
        clear hF
        go_simp
        exact hK.out _ _ (Below.refl _ _) (rfl) trivial
       refine AS.sc rfl rfl rfl ?_ ?_
       ·intro k_ u w_ hk hJ hF K hK
        clear hF
        obtain rfl : k_ = 0 := Nat.le_zero.1 hk
        have hJ0 : Below W17.heap.size W17 w_ := hJ
        obtain ⟨y0, y1, y2, y3⟩ := ((b12.out).up hJ0).c4
        go_simp
        exact hK.out _ _ (Below.refl _ _) ((HZ.out).kept (Keep.ofBelow hJ0)) trivial
       refine AS.sc rfl rfl rfl ?_ ?_
       ·intro k_ u w_ hk hJ hF K hK
        have h79 : PRat (z) 223 (u 79) w_ := AS.facts_get hF 79 (by simp)
        clear hF
        go_simp
        refine (ratSign_is h79 Qhsg.out).mono ?_
        rintro e w' ⟨rfl, hb⟩
        exact hK.out _ _ hb (rfl) trivial
       refine AS.sc rfl rfl rfl ?_ ?_
       ·intro k_ u w_ hk hJ hF K hK
        have h78 : u 78 = .int .i64 (c) := AS.facts_get hF 78 (by simp)
        have h80 : u 80 = .int .i64 (sg) := AS.facts_get hF 80 (by simp)
        clear hF
        simp only [h78, h80] at hK ⊢
        clear h78 h80
        have hw := Qhwm.out
        go_simp
        exact hK.out _ _ (Below.refl _ _) (rfl) trivial
       refine AS.sc rfl rfl rfl ?_ ?_
       ·intro k_ u w_ hk hJ hF K hK
        have h77 : u 77 = .int .i64 (m) := AS.facts_get hF 77 (by simp)
        have h81 : u 81 = .int .i64 (m) := AS.facts_get hF 81 (by simp)
        clear hF
        simp only [h77, h81] at hK ⊢
        clear h77 h81
        go_simp
        exact hK.out _ _ (Below.refl _ _) (rfl) trivial
       refine AS.sc rfl rfl rfl ?_ ?_
       ·intro k_ u w_ hk hJ hF K hK
        have h82 : u 82 = .bool true := AS.facts_get hF 82 (by simp)
        clear hF
        simp only [h82] at hK ⊢
        clear h82
        go_simp
        exact hK.out _ _ (Below.refl _ _) (rfl) trivial
       refine AS.sc rfl rfl rfl ?_ ?_
       ·intro k_ u w_ hk hJ hF K hK
        have h83 : u 83 = .bool true := AS.facts_get hF 83 (by simp)
        clear hF
        simp only [h83] at hK ⊢
        clear h83
        go_simp
        exact hK.out _ _ (Below.refl _ _) (rfl) trivial
       refine AS.sc rfl rfl rfl ?_ ?_
       ·intro k_ u w_ hk hJ hF K hK
        have h83 : u 83 = .bool true := AS.facts_get hF 83 (by simp)
        have h84 : u 84 = .int .i64 (c) := AS.facts_get hF 84 (by simp)
        clear hF
        simp only [h83, h84] at hK ⊢
        clear h83 h84
        go_simp
        exact hK.out _ _ (Below.refl _ _) (rfl) trivial
       refine AS.sc rfl rfl rfl ?_ ?_
       ·intro k_ u w_ hk hJ hF K hK
        have h83 : u 83 = .bool true := AS.facts_get hF 83 (by simp)
        have h85 : u 85 = .bool false := AS.facts_get hF 85 (by simp)
        clear hF
        simp only [h83, h85] at hK ⊢
        clear h83 h85
        go_simp
        exact hK.out _ _ (Below.refl _ _) (rfl) trivial
       refine AS.sc rfl rfl rfl ?_ ?_
       ·intro k_ u w_ hk hJ hF K hK
        have h86 : u 86 = .bool false := AS.facts_get hF 86 (by simp)
        clear hF
        simp only [h86] at hK ⊢
        clear h86
        obtain rfl : k_ = 0 := Nat.le_zero.1 hk
        have hJ0 : Below W17.heap.size W17 w_ := hJ
        obtain ⟨y0, y1, y2, y3⟩ := ((b8.out).up hJ0).c4
        go_simp
        exact hK.out _ _ (Below.refl _ _) ((HY.out).kept (Keep.ofBelow hJ0)) trivial
       refine AS.sc rfl rfl rfl ?_ ?_
       ·intro k_ u w_ hk hJ hF K hK
        have h86 : u 86 = .bool false := AS.facts_get hF 86 (by simp)
        clear hF
        simp only [h86] at hK ⊢
        clear h86
        obtain rfl : k_ = 0 := Nat.le_zero.1 hk
        have hJ0 : Below W17.heap.size W17 w_ := hJ
        obtain ⟨y0, y1, y2, y3⟩ := ((b12.out).up hJ0).c4
        go_simp
        exact hK.out _ _ (Below.refl _ _) ((HZ.out).kept (Keep.ofBelow hJ0)) trivial
       refine AS.sc rfl rfl rfl ?_ ?_
       ·intro k_ u w_ hk hJ hF K hK
        have h86 : u 86 = .bool false := AS.facts_get hF 86 (by simp)
        have h87 : PRat (y) 223 (u 87) w_ := AS.facts_get hF 87 (by simp)
        have h88 : PRat (z) 223 (u 88) w_ := AS.facts_get hF 88 (by simp)
        clear hF
        simp only [h86] at hK ⊢
        clear h86
        go_simp
        refine (ratCmp_is (n := 223) (h87.more (by decide)) (h88.more (by decide)) (by decide) (by decide) Qhd.out).mono ?_
        rintro e w' ⟨rfl, hb⟩
        exact hK.out _ _ hb (rfl) trivial
       refine AS.sc rfl rfl rfl ?_ ?_
       ·intro k_ u w_ hk hJ hF K hK
        have h86 : u 86 = .bool false := AS.facts_get hF 86 (by simp)
        have h89 : u 89 = .int .i64 (d) := AS.facts_get hF 89 (by simp)
        clear hF
        simp only [h86, h89] at hK ⊢
        clear h86 h89
        go_simp
        exact hK.out _ _ (Below.refl _ _) (rfl) trivial
       refine AS.sc rfl rfl rfl ?_ ?_
       ·intro k_ u w_ hk hJ hF K hK
        have h83 : u 83 = .bool true := AS.facts_get hF 83 (by simp)
        have h86 : u 86 = .bool false := AS.facts_get hF 86 (by simp)
        have h90 : u 90 = .bool true := AS.facts_get hF 90 (by simp)
        clear hF
        simp only [h83, h86, h90] at hK ⊢
        clear h83 h86 h90
        go_simp
        exact hK.out _ _ (Below.refl _ _) (rfl) trivial
       refine AS.sc rfl rfl rfl ?_ ?_
       ·intro k_ u w_ hk hJ hF K hK
        have h83 : u 83 = .bool true := AS.facts_get hF 83 (by simp)
        have h91 : u 91 = .bool true := AS.facts_get hF 91 (by simp)
        clear hF
        simp only [h83, h91] at hK ⊢
        clear h83 h91
        go_simp
        exact hK.out _ _ (Below.refl _ _) (rfl) trivial
       refine AS.sc rfl rfl rfl ?_ ?_
       ·intro k_ u w_ hk hJ hF K hK
        have h92 : u 92 = .bool true := AS.facts_get hF 92 (by simp)
        clear hF
        simp only [h92] at hK ⊢
        clear h92
        go_simp
        exact hK.out _ _ (Below.refl _ _) (rfl) trivial
       refine AS.sc rfl rfl rfl ?_ ?_
       ·intro k_ u w_ hk hJ hF K hK
        have h92 : u 92 = .bool true := AS.facts_get hF 92 (by simp)
        clear hF
        simp only [h92] at hK ⊢
        clear h92
        go_simp
        exact hK.out _ _ (Below.refl _ _) (rfl) trivial
       refine AS.sc rfl rfl rfl ?_ ?_
       ·intro k_ u w_ hk hJ hF K hK
        have h92 : u 92 = .bool true := AS.facts_get hF 92 (by simp)
        clear hF
        simp only [h92] at hK ⊢
        clear h92
        go_simp
        exact hK.out _ _ (Below.refl _ _) (rfl) trivial
       refine AS.sc rfl rfl rfl ?_ ?_
       ·intro k_ u w_ hk hJ hF K hK
        have h92 : u 92 = .bool true := AS.facts_get hF 92 (by simp)
        clear hF
        simp only [h92] at hK ⊢
        clear h92
        go_simp
        exact hK.out _ _ (Below.refl _ _) (rfl) trivial
       refine AS.sc rfl rfl rfl ?_ ?_
       ·intro k_ u w_ hk hJ hF K hK
        have h83 : u 83 = .bool true := AS.facts_get hF 83 (by simp)
        have h92 : u 92 = .bool true := AS.facts_get hF 92 (by simp)
        have h96 : u 96 = undef := AS.facts_get hF 96 (by simp)
        clear hF
        simp only [h83, h92, h96] at hK ⊢
        clear h83 h92 h96
        go_simp
        exact hK.out _ _ (Below.refl _ _) (rfl) trivial
       refine AS.sc rfl rfl rfl ?_ ?_
       ·intro k_ u w_ hk hJ hF K hK
        have h83 : u 83 = .bool true := AS.facts_get hF 83 (by simp)
        have h97 : u 97 = .bool true := AS.facts_get hF 97 (by simp)
        clear hF
        simp only [h83, h97] at hK ⊢
        clear h83 h97
        go_simp
        exact hK.out _ _ (Below.refl _ _) (rfl) trivial
       refine AS.sc rfl rfl rfl ?_ ?_
       ·intro k_ u w_ hk hJ hF K hK
        have h98 : u 98 = .bool true := AS.facts_get hF 98 (by simp)
        clear hF
        simp only [h98] at hK ⊢
        clear h98
        go_simp
        exact hK.out _ _ (Below.refl _ _) (rfl) trivial
       exact AS.StepsOk.nil
      ·intro u W19 hJ9 hF
       have h6 : u 6 = .bool true := AS.facts_get hF 6 (by simp [orderFLB, AS.temps])
       clear hF
       rw [show u 6 = _ from h6]
       clear h6
       replace b7 := hup b7 hJ9
       replace b8 := hup b8 hJ9
       replace b9 := hup b9 hJ9
       replace b10 := hup b10 hJ9
       replace b12 := hup b12 hJ9
       replace b13 := hup b13 hJ9
       replace b14 := hup b14 hJ9
       replace b15 := hup b15 hJ9
       replace HX := Lib.hid (HX.out.kept (Keep.ofBelow hJ9))
       replace HY := Lib.hid (HY.out.kept (Keep.ofBelow hJ9))
       replace HZ := Lib.hid (HZ.out.kept (Keep.ofBelow hJ9))
       have nbel := below_then HB18.out hJ9 HB18.out.size
       have HB20 := Lib.hid nbel
       clear nbel HB18 hJ9 x70 x71 x72 x73 x80 x81 x82 x83 x90 x91 x92 x93 x100 x101 x102 x103 x120 x121 x122 x123 x130 x131 x132 x133 x140 x141 x142 x143 x150 x151 x152 x153 szb s7 s8 s9 s10 s12 s13 s14 s15
       obtain ⟨x70, x71, x72, x73, s7⟩ := b7.out.d4
       obtain ⟨x80, x81, x82, x83, s8⟩ := b8.out.d4
       obtain ⟨x90, x91, x92, x93, s9⟩ := b9.out.d4
       obtain ⟨x100, x101, x102, x103, s10⟩ := b10.out.d4
       obtain ⟨x120, x121, x122, x123, s12⟩ := b12.out.d4
       obtain ⟨x130, x131, x132, x133, s13⟩ := b13.out.d4
       obtain ⟨x140, x141, x142, x143, s14⟩ := b14.out.d4
       obtain ⟨x150, x151, x152, x153, s15⟩ := b15.out.d4
       have szb := HB20.out.size
       go_wp2_with fail
       have hkeep := (Keep.refl W19)
       have hbel := HB20.out
       refine bodyPost_ret (v := .bool true) (by simp [results, Tryz.results8, go_sem]) rfl ⟨rfl, hbel⟩
     ·rw [Bool.not_eq_true] at hdz
      have hfz : decide (f ≤ 0) = true := by have := Qhtr.out; simp; simp at hcz hdz; omega
      refine AS.region_facts (orderFLC x y z c sg d f m) (JNo W17) [[], [], [71, 72], [], [], [74, 75], [73, 76], [], [], [79], [78, 80], [77, 81], [82], [83], [83, 84], [83, 85], [86], [86], [86, 87, 88], [86, 89], [83, 86, 90], [83, 91], [92], [92], [92, 93, 94], [92, 95], [83, 92, 96], [83, 97], [98]] [] [[]] [0, 0, 0, 0, 0, 0, 0, 0, 0, 0, 0, 0, 0, 0, 0, 0, 0, 0, 0, 0, 0, 0, 0, 0, 0, 0, 0, 0, 0] [] (fun u => by simp only [orderFLC, AS.temps, List.map_cons, List.map_nil, fillL, List.setIfInBounds_toArray, List.set_cons_zero, List.set_cons_succ]; rfl) (by kernel_rfl) (by kernel_rfl) (JNo.st W17) (below_drew (Below.refl _ _)) ?_ ?_
      ·refine AS.sc rfl rfl rfl ?_ ?_
       ·intro k_ u w_ hk hJ hF K hK
        clear hF
        obtain rfl : k_ = 0 := Nat.le_zero.1 hk
        have hJ0 : Below W17.heap.size W17 w_ := hJ
        obtain ⟨y0, y1, y2, y3⟩ := ((b7.out).up hJ0).c4
        go_simp
        exact hK.out _ _ (Below.refl _ _) ((HX.out).kept (Keep.ofBelow hJ0)) trivial
       refine AS.sc rfl rfl rfl ?_ ?_
       ·intro k_ u w_ hk hJ hF K hK
        clear hF
        obtain rfl : k_ = 0 := Nat.le_zero.1 hk
        have hJ0 : Below W17.heap.size W17 w_ := hJ
        obtain ⟨y0, y1, y2, y3⟩ := ((b12.out).up hJ0).c4
        go_simp
        exact hK.out _ _ (Below.refl _ _) ((HZ.out).kept (Keep.ofBelow hJ0)) trivial
       refine AS.sc rfl rfl rfl ?_ ?_
       ·intro k_ u w_ hk hJ hF K hK
        have h71 : PRat (x) 223 (u 71) w_ := AS.facts_get hF 71 (by simp)
        have h72 : PRat (z) 223 (u 72) w_ := AS.facts_get hF 72 (by simp)
        clear hF
        go_simp
        refine (ratMul_fact (n := 223) (h71.more (by decide)) (h72.more (by decide)) (by decide) (by decide)).mono ?_
        rintro e w' ⟨v, rfl, hv, hb⟩
        exact hK.out _ _ hb (hv) trivial
       refine AS.sc rfl rfl rfl ?_ ?_
       ·intro k_ u w_ hk hJ hF K hK
        clear hF
        obtain rfl : k_ = 0 := Nat.le_zero.1 hk
        have hJ0 : Below W17.heap.size W17 w_ := hJ
        obtain ⟨y0, y1, y2, y3⟩ := ((b8.out).up hJ0).c4
        go_simp
        exact hK.out _ _ (Below.refl _ _) ((HY.out).kept (Keep.ofBelow hJ0)) trivial
       refine AS.sc rfl rfl rfl ?_ ?_
       ·intro k_ u w_ hk hJ hF K hK
        clear hF
        obtain rfl : k_ = 0 := Nat.le_zero.1 hk
        have hJ0 : Below W17.heap.size W17 w_ := hJ
        obtain ⟨y0, y1, y2, y3⟩ := ((b12.out).up hJ0).c4
        go_simp
        exact hK.out _ _ (Below.refl _ _) ((HZ.out).kept (Keep.ofBelow hJ0)) trivial
       refine AS.sc rfl rfl rfl ?_ ?_
       ·intro k_ u w_ hk hJ hF K hK
        have h74 : PRat (y) 223 (u 74) w_ := AS.facts_get hF 74 (by simp)
        have h75 : PRat (z) 223 (u 75) w_ := AS.facts_get hF 75 (by simp)
        clear hF
        go_simp
        refine (ratMul_fact (n := 223) (h74.more (by decide)) (h75.more (by decide)) (by decide) (by decide)).mono ?_
        rintro e w' ⟨v, rfl, hv, hb⟩
        exact hK.out _ _ hb (hv) trivial
       refine AS.sc rfl rfl rfl ?_ ?_
       ·intro k_ u w_ hk hJ hF K hK
        have h73 : PRat (x * z) 447 (u 73) w_ := AS.facts_get hF 73 (by simp)
        have h76 : PRat (y * z) 447 (u 76) w_ := AS.facts_get hF 76 (by simp)
        clear hF
        go_simp
        refine (ratCmp_is (n := 447) (h73.more (by decide)) (h76.more (by decide)) (by decide) (by decide) Qhm1.out).mono ?_
        rintro e w' ⟨rfl, hb⟩
        exact hK.out _ _ hb (rfl) trivial
       refine AS.sc rfl rfl rfl ?_ ?_
       ·intro k_ u w_ hk hJ hF K hK
        clear hF
        go_simp
        exact hK.out _ _ (Below.refl _ _) (rfl) trivial
       refine AS.sc rfl rfl rfl ?_ ?_
       ·intro k_ u w_ hk hJ hF K hK
        clear hF
        obtain rfl : k_ = 0 := Nat.le_zero.1 hk
        have hJ0 : Below W17.heap.size W17 w_ := hJ
        obtain ⟨y0, y1, y2, y3⟩ := ((b12.out).up hJ0).c4
        go_simp
        exact hK.out _ _ (Below.refl _ _) ((HZ.out).kept (Keep.ofBelow hJ0)) trivial
       refine AS.sc rfl rfl rfl ?_ ?_
       ·intro k_ u w_ hk hJ hF K hK
        have h79 : PRat (z) 223 (u 79) w_ := AS.facts_get hF 79 (by simp)
        clear hF
        go_simp
        refine (ratSign_is h79 Qhsg.out).mono ?_
        rintro e w' ⟨rfl, hb⟩
        exact hK.out _ _ hb (rfl) trivial
       refine AS.sc rfl rfl rfl ?_ ?_
       ·intro k_ u w_ hk hJ hF K hK
        have h78 : u 78 = .int .i64 (c) := AS.facts_get hF 78 (by simp)
        have h80 : u 80 = .int .i64 (sg) := AS.facts_get hF 80 (by simp)
        clear hF
        simp only [h78, h80] at hK ⊢
        clear h78 h80
        have hw := Qhwm.out
        go_simp
        exact hK.out _ _ (Below.refl _ _) (rfl) trivial
       refine AS.sc rfl rfl rfl ?_ ?_
       ·intro k_ u w_ hk hJ hF K hK
        have h77 : u 77 = .int .i64 (m) := AS.facts_get hF 77 (by simp)
        have h81 : u 81 = .int .i64 (m) := AS.facts_get hF 81 (by simp)
        clear hF
        simp only [h77, h81] at hK ⊢
        clear h77 h81
        go_simp
        exact hK.out _ _ (Below.refl _ _) (rfl) trivial
       refine AS.sc rfl rfl rfl ?_ ?_
       ·intro k_ u w_ hk hJ hF K hK
        have h82 : u 82 = .bool true := AS.facts_get hF 82 (by simp)
        clear hF
        simp only [h82] at hK ⊢
        clear h82
        go_simp
        exact hK.out _ _ (Below.refl _ _) (rfl) trivial
       refine AS.sc rfl rfl rfl ?_ ?_
       ·intro k_ u w_ hk hJ hF K hK
        have h83 : u 83 = .bool true := AS.facts_get hF 83 (by simp)
        clear hF
        simp only [h83] at hK ⊢
        clear h83
        go_simp
        exact hK.out _ _ (Below.refl _ _) (rfl) trivial
       refine AS.sc rfl rfl rfl ?_ ?_
       ·intro k_ u w_ hk hJ hF K hK
        have h83 : u 83 = .bool true := AS.facts_get hF 83 (by simp)
        have h84 : u 84 = .int .i64 (c) := AS.facts_get hF 84 (by simp)
        clear hF
        simp only [h83, h84] at hK ⊢
        clear h83 h84
        go_simp
        exact hK.out _ _ (Below.refl _ _) (rfl) trivial
       refine AS.sc rfl rfl rfl ?_ ?_
       ·intro k_ u w_ hk hJ hF K hK
        have h83 : u 83 = .bool true := AS.facts_get hF 83 (by simp)
        have h85 : u 85 = .bool false := AS.facts_get hF 85 (by simp)
        clear hF
        simp only [h83, h85] at hK ⊢
        clear h83 h85
        go_simp
        exact hK.out _ _ (Below.refl _ _) (rfl) trivial
       refine AS.sc rfl rfl rfl ?_ ?_
       ·intro k_ u w_ hk hJ hF K hK
        have h86 : u 86 = .bool false := AS.facts_get hF 86 (by simp)
        clear hF
        simp only [h86] at hK ⊢
        clear h86
        obtain rfl : k_ = 0 := Nat.le_zero.1 hk
        have hJ0 : Below W17.heap.size W17 w_ := hJ
        obtain ⟨y0, y1, y2, y3⟩ := ((b8.out).up hJ0).c4
        go_simp
        exact hK.out _ _ (Below.refl _ _) ((HY.out).kept (Keep.ofBelow hJ0)) trivial
       refine AS.sc rfl rfl rfl ?_ ?_
       ·intro k_ u w_ hk hJ hF K hK
        have h86 : u 86 = .bool false := AS.facts_get hF 86 (by simp)
        clear hF
        simp only [h86] at hK ⊢
        clear h86
        obtain rfl : k_ = 0 := Nat.le_zero.1 hk
        have hJ0 : Below W17.heap.size W17 w_ := hJ
        obtain ⟨y0, y1, y2, y3⟩ := ((b12.out).up hJ0).c4
        go_simp
        exact hK.out _ _ (Below.refl _ _) ((HZ.out).kept (Keep.ofBelow hJ0)) trivial
       refine AS.sc rfl rfl rfl ?_ ?_
       ·intro k_ u w_ hk hJ hF K hK
        have h86 : u 86 = .bool false := AS.facts_get hF 86 (by simp)
        have h87 : PRat (y) 223 (u 87) w_ := AS.facts_get hF 87 (by simp)
        have h88 : PRat (z) 223 (u 88) w_ := AS.facts_get hF 88 (by simp)
        clear hF
        simp only [h86] at hK ⊢
        clear h86
        go_simp
        refine (ratCmp_is (n := 223) (h87.more (by decide)) (h88.more (by decide)) (by decide) (by decide) Qhd.out).mono ?_
        rintro e w' ⟨rfl, hb⟩
        exact hK.out _ _ hb (rfl) trivial
       refine AS.sc rfl rfl rfl ?_ ?_
       ·intro k_ u w_ hk hJ hF K hK
        have h86 : u 86 = .bool false := AS.facts_get hF 86 (by simp)
        have h89 : u 89 = .int .i64 (d) := AS.facts_get hF 89 (by simp)
        clear hF
        simp only [h86, h89] at hK ⊢
        clear h86 h89
        go_simp
        exact hK.out _ _ (Below.refl _ _) (rfl) trivial
       refine AS.sc rfl rfl rfl ?_ ?_
       ·intro k_ u w_ hk hJ hF K hK
        have h83 : u 83 = .bool true := AS.facts_get hF 83 (by simp)
        have h86 : u 86 = .bool false := AS.facts_get hF 86 (by simp)
        have h90 : u 90 = .bool false := AS.facts_get hF 90 (by simp)
        clear hF
        simp only [h83, h86, h90] at hK ⊢
        clear h83 h86 h90
        go_simp
        exact hK.out _ _ (Below.refl _ _) (rfl) trivial
       refine AS.sc rfl rfl rfl ?_ ?_
       ·intro k_ u w_ hk hJ hF K hK
        have h83 : u 83 = .bool true := AS.facts_get hF 83 (by simp)
        have h91 : u 91 = .bool false := AS.facts_get hF 91 (by simp)
        clear hF
        simp only [h83, h91] at hK ⊢
        clear h83 h91
        go_simp
        exact hK.out _ _ (Below.refl _ _) (rfl) trivial
       refine AS.sc rfl rfl rfl ?_ ?_
       ·intro k_ u w_ hk hJ hF K hK
        have h92 : u 92 = .bool false := AS.facts_get hF 92 (by simp)
        clear hF
        simp only [h92] at hK ⊢
        clear h92
        obtain rfl : k_ = 0 := Nat.le_zero.1 hk
        have hJ0 : Below W17.heap.size W17 w_ := hJ
        obtain ⟨y0, y1, y2, y3⟩ := ((b7.out).up hJ0).c4
        go_simp
        exact hK.out _ _ (Below.refl _ _) ((HX.out).kept (Keep.ofBelow hJ0)) trivial
       refine AS.sc rfl rfl rfl ?_ ?_
       ·intro k_ u w_ hk hJ hF K hK
        have h92 : u 92 = .bool false := AS.facts_get hF 92 (by simp)
        clear hF
        simp only [h92] at hK ⊢
        clear h92
        obtain rfl : k_ = 0 := Nat.le_zero.1 hk
        have hJ0 : Below W17.heap.size W17 w_ := hJ
        obtain ⟨y0, y1, y2, y3⟩ := ((b12.out).up hJ0).c4
        go_simp
        exact hK.out _ _ (Below.refl _ _) ((HZ.out).kept (Keep.ofBelow hJ0)) trivial
       refine AS.sc rfl rfl rfl ?_ ?_
       ·intro k_ u w_ hk hJ hF K hK
        have h92 : u 92 = .bool false := AS.facts_get hF 92 (by simp)
        have h93 : PRat (x) 223 (u 93) w_ := AS.facts_get hF 93 (by simp)
        have h94 : PRat (z) 223 (u 94) w_ := AS.facts_get hF 94 (by simp)
        clear hF
        simp only [h92] at hK ⊢
        clear h92
        go_simp
        refine (ratCmp_is (n := 223) (h93.more (by decide)) (h94.more (by decide)) (by decide) (by decide) Qhf.out).mono ?_
        rintro e w' ⟨rfl, hb⟩
        exact hK.out _ _ hb (rfl) trivial
       refine AS.sc rfl rfl rfl ?_ ?_
       ·intro k_ u w_ hk hJ hF K hK
        have h92 : u 92 = .bool false := AS.facts_get hF 92 (by simp)
        have h95 : u 95 = .int .i64 (f) := AS.facts_get hF 95 (by simp)
        clear hF
        simp only [h92, h95] at hK ⊢
        clear h92 h95
        go_simp
        exact hK.out _ _ (Below.refl _ _) (rfl) trivial
       refine AS.sc rfl rfl rfl ?_ ?_
       ·intro k_ u w_ hk hJ hF K hK
        have h83 : u 83 = .bool true := AS.facts_get hF 83 (by simp)
        have h92 : u 92 = .bool false := AS.facts_get hF 92 (by simp)
        have h96 : u 96 = .bool true := AS.facts_get hF 96 (by simp)
        clear hF
        simp only [h83, h92, h96] at hK ⊢
        clear h83 h92 h96
        go_simp
        exact hK.out _ _ (Below.refl _ _) (rfl) trivial
       refine AS.sc rfl rfl rfl ?_ ?_
       ·intro k_ u w_ hk hJ hF K hK
        have h83 : u 83 = .bool true := AS.facts_get hF 83 (by simp)
        have h97 : u 97 = .bool true := AS.facts_get hF 97 (by simp)
        clear hF
        simp only [h83, h97] at hK ⊢
        clear h83 h97
        go_simp
        exact hK.out _ _ (Below.refl _ _) (rfl) trivial
       refine AS.sc rfl rfl rfl ?_ ?_
       ·intro k_ u w_ hk hJ hF K hK
        have h98 : u 98 = .bool true := AS.facts_get hF 98 (by simp)
        clear hF
        simp only [h98] at hK ⊢
        clear h98
        go_simp
        exact hK.out _ _ (Below.refl _ _) (rfl) trivial
       exact AS.StepsOk.nil
      ·intro u W19 hJ9 hF
       have h6 : u 6 = .bool true := AS.facts_get hF 6 (by simp [orderFLC, AS.temps])
       clear hF
       rw [show u 6 = _ from h6]
       clear h6
       replace b7 := hup b7 hJ9
       replace b8 := hup b8 hJ9
       replace b9 := hup b9 hJ9
       replace b10 := hup b10 hJ9
       replace b12 := hup b12 hJ9
       replace b13 := hup b13 hJ9
       replace b14 := hup b14 hJ9
       replace b15 := hup b15 hJ9
       replace HX := Lib.hid (HX.out.kept (Keep.ofBelow hJ9))
       replace HY := Lib.hid (HY.out.kept (Keep.ofBelow hJ9))
       replace HZ := Lib.hid (HZ.out.kept (Keep.ofBelow hJ9))
       have nbel := below_then HB18.out hJ9 HB18.out.size
       have HB20 := Lib.hid nbel
       clear nbel HB18 hJ9 x70 x71 x72 x73 x80 x81 x82 x83 x90 x91 x92 x93 x100 x101 x102 x103 x120 x121 x122 x123 x130 x131 x132 x133 x140 x141 x142 x143 x150 x151 x152 x153 szb s7 s8 s9 s10 s12 s13 s14 s15
       obtain ⟨x70, x71, x72, x73, s7⟩ := b7.out.d4
       obtain ⟨x80, x81, x82, x83, s8⟩ := b8.out.d4
       obtain ⟨x90, x91, x92, x93, s9⟩ := b9.out.d4
       obtain ⟨x100, x101, x102, x103, s10⟩ := b10.out.d4
       obtain ⟨x120, x121, x122, x123, s12⟩ := b12.out.d4
       obtain ⟨x130, x131, x132, x133, s13⟩ := b13.out.d4
       obtain ⟨x140, x141, x142, x143, s14⟩ := b14.out.d4
       obtain ⟨x150, x151, x152, x153, s15⟩ := b15.out.d4
       have szb := HB20.out.size
       go_wp2_with fail
       have hkeep := (Keep.refl W19)
       have hbel := HB20.out
       refine bodyPost_ret (v := .bool true) (by simp [results, Tryz.results8, go_sem]) rfl ⟨rfl, hbel⟩
end Go.Proofs.YtgihmikeapbpkaaGreatDoor
