/- Contracts and the law of RationalLowest, part 1: what was proved of each, callees first. -/
import Derived.Test.YtgihmikeapbpkaaGreatDoorK10
namespace Go.Proofs.YtgihmikeapbpkaaGreatDoor
open Go.RowKit
def cmpQ (x y : Rat) : Int := if x < y then -1 else if x = y then 0 else 1
theorem cmp_terms (x y : Rat) : cmpI (x.num * y.den) (y.num * x.den) = cmpQ x y := by
 unfold cmpI cmpQ
 simp only [Rat.lt_iff, Rat.eq_iff_mul_eq_mul]
open AS (Keep NoInt)
section
variable {t : TypeId} {w w' : World} {g : Nat} {vs : List Value}
end
theorem PRat.more {x : Rat} {n m : Nat} {v : Value} {w : World} (h : PRat x n v w) (hm : n ≤ m) : PRat x m v w := by
 obtain ⟨p, q, k, A, l, c, k', A', l', c', rfl, h1, h2, h3⟩ := h
 exact ⟨p, q, k, A, l, c, k', A', l', c', rfl, h1.more hm, h2.more hm, h3⟩
def IsBox4 (t : TypeId) (B : Nat) (v : Value) (w : World) : Prop := ∃ g x y z u, v = .pointer (some ⟨g, 0, none⟩) ∧ B ≤ g ∧ Bx t w g [x, y, z, u]
def AS.Fact.isBox4 (t : TypeId) (B : Nat) : AS.Fact := ⟨IsBox4 t B, fun _ _ _ hk ⟨g, x, y, z, u, e, hB, h⟩ => by
 obtain ⟨vs', hl, h2⟩ := hk.box t g [x, y, z, u] (by simp) h
 match vs', hl, h2 with
 | [x', y', z', u'], _, h2 => exact ⟨g, x', y', z', u', e, hB, h2⟩⟩
theorem IsBox4.new {t : TypeId} {B : Nat} (w : World) (hB : B ≤ w.heap.size) : IsBox4 t B (.pointer (some ⟨w.heap.size, 0, none⟩)) (w.alloc (.cells #[.bool false, .slice none 0 0, .bool false, .slice none 0 0] t)) :=
 ⟨w.heap.size, _, _, _, _, rfl, hB, Bx.new t w [.bool false, .slice none 0 0, .bool false, .slice none 0 0] (leaf4 (Leaf.bool _) (Leaf.slice _ _ _) (Leaf.bool _) (Leaf.slice _ _ _))⟩
open Go.RowKit
open AS (Keep NoInt)
set_option maxRecDepth 20000 in
set_option maxHeartbeats 3200000 in
theorem copied_fact {z : Int} {n : Nat} {a : Value} {w : World} (h1 : PInt z n a w) (hn : n ≤ 400000) :
  Calls Tryz.prog 71 #[a] w fun e w' => ∃ v, e = .returned v ∧ PInt z (n + 1) v w' ∧ Below w.heap.size w w' := by
 obtain ⟨k, A, l, c, rfl⟩ := h1.open
 have H1 := Lib.hid h1
 clear h1
 go_enter Tryz.func71, Tryz.ntmps71
 go_upto_region 1 with (fail)
 change Code.wp Tryz.prog _ _ _ ((w.alloc (.cells #[.bool k, .slice A l c] 25)).alloc (.cells #[.bool false, .slice none 0 0] 25))
 obtain ⟨nb1, nb2, na⟩ := new2 w 25 [.bool k, .slice A l c] 25 [.bool false, .slice none 0 0] lf2 lf2
 have nkeep := Keep.ofBelow na
 have nbel := na
 generalize (w.alloc (.cells #[.bool k, .slice A l c] 25)).alloc (.cells #[.bool false, .slice none 0 0] 25) = W1 at *
 clear na
 have b1 := Lib.hid nb1
 have b2 := Lib.hid nb2
 clear nb1 nb2
 replace H1 := Lib.hid (H1.out.kept nkeep)
 clear nkeep
 have HB2 := Lib.hid nbel
 clear nbel
 obtain ⟨x10, x11, s1⟩ := b1.out.d2
 obtain ⟨x20, x21, z20, z21, s2⟩ := b2.out.e2
 have szb := HB2.out.size
 go_wp2_with fail
 refine (add_fact H1.out (PInt.zero 0 _) (by omega) (by omega)).mono ?_
 rintro e W3 ⟨v, rfl, hv, hb⟩
 replace b1 := hup b1 hb
 replace b2 := hup b2 hb
 replace H1 := Lib.hid (H1.out.kept (Keep.ofBelow hb))
 have nbel := below_then HB2.out hb HB2.out.size
 have HB4 := Lib.hid nbel
 clear nbel HB2 hb x10 x11 x20 x21 z20 z21 szb s1 s2
 obtain ⟨x10, x11, s1⟩ := b1.out.d2
 obtain ⟨x20, x21, z20, z21, s2⟩ := b2.out.e2
 have szb := HB4.out.size
 obtain ⟨k1, A1, l1, c1, rfl⟩ := hv.open
 have HV := Lib.hid hv
 clear hv
 go_wp2_with fail
 have hkeep := (Keep.set2 (Keep.refl W3) b2.out (Leaf.bool k1) (Leaf.slice A1 l1 c1))
 have hbel := (Below.set2 (g := w.heap.size + 1) HB4.out (by first | omega | (simp; done) | (simp; omega)) (.bool k1) (.slice A1 l1 c1))
 refine bodyPost_ret (v := .agg #[.bool k1, .slice A1 l1 c1]) (by simp [results, Tryz.results71, go_sem, x20, x21]) rfl ⟨_, rfl, by have h := HV.out.kept hkeep; simpa using h, hbel⟩
def ratCmpFL (x y : Rat) (n : Nat) : List (Nat × AS.Fact) := [(19, AS.Fact.int (x.num) n), (20, AS.Fact.int ((y.den : Int)) n), (21, AS.Fact.int ((x.num) * ((y.den : Int))) (n + n)), (22, AS.Fact.int (y.num) n), (23, AS.Fact.int ((x.den : Int)) n), (24, AS.Fact.int ((y.num) * ((x.den : Int))) (n + n)), (25, AS.Fact.is (.int .i64 (cmpI ((x.num) * ((y.den : Int))) ((y.num) * ((x.den : Int)))))), (4, AS.Fact.is (.int .i64 (cmpI ((x.num) * ((y.den : Int))) ((y.num) * ((x.den : Int))))))]
set_option maxRecDepth 20000 in
set_option maxHeartbeats 3200000 in
theorem ratCmp_fact {x y : Rat} {n : Nat} {v v2 : Value} {w : World} (h : PRat x n v w) (h2 : PRat y n v2 w) (hn3 : 3 ≤ n) (hn : n ≤ 10000) :
  Calls Tryz.prog 26 #[v, v2] w fun e w' => e = .returned (.int .i64 (cmpQ x y)) ∧ Below w.heap.size w w' := by
 obtain ⟨k, A, l, c, k', A', l', c', rfl⟩ := h.open
 obtain ⟨r, E, m, d, r', E', m', d', rfl⟩ := h2.open
 have H1 := Lib.hid h
 have H2 := Lib.hid h2
 clear h h2
 go_enter Tryz.func26, Tryz.ntmps26
 go_upto_region 1 with (fail)
 change Code.wp Tryz.prog _ _ _ ((w.alloc (.cells #[.bool k, .slice A l c, .bool k', .slice A' l' c'] 27)).alloc (.cells #[.bool r, .slice E m d, .bool r', .slice E' m' d'] 27))
 obtain ⟨nb2, nb3, na⟩ := new2 w 27 [.bool k, .slice A l c, .bool k', .slice A' l' c'] 27 [.bool r, .slice E m d, .bool r', .slice E' m' d'] lf4 lf4
 have nkeep := Keep.ofBelow na
 have nbel := na
 generalize (w.alloc (.cells #[.bool k, .slice A l c, .bool k', .slice A' l' c'] 27)).alloc (.cells #[.bool r, .slice E m d, .bool r', .slice E' m' d'] 27) = W1 at *
 clear na
 have b2 := Lib.hid nb2
 have b3 := Lib.hid nb3
 clear nb2 nb3
 replace H1 := Lib.hid (H1.out.kept nkeep)
 replace H2 := Lib.hid (H2.out.kept nkeep)
 clear nkeep
 have HB2 := Lib.hid nbel
 clear nbel
 obtain ⟨x20, x21, x22, x23, s2⟩ := b2.out.d4
 obtain ⟨x30, x31, x32, x33, s3⟩ := b3.out.d4
 have szb := HB2.out.size
 go_wp2_with fail
 refine (terms_fact H1.out hn3).mono ?_
 rintro e W3 ⟨k1, A1, l1, c1, j1, B1, o1, e1, rfl, ha_, hc_, hb⟩
 replace b2 := hup b2 hb
 replace b3 := hup b3 hb
 replace H1 := Lib.hid (H1.out.kept (Keep.ofBelow hb))
 replace H2 := Lib.hid (H2.out.kept (Keep.ofBelow hb))
 have nbel := below_then HB2.out hb HB2.out.size
 have HB4 := Lib.hid nbel
 clear nbel HB2 hb x20 x21 x22 x23 x30 x31 x32 x33 szb s2 s3
 obtain ⟨x20, x21, x22, x23, s2⟩ := b2.out.d4
 obtain ⟨x30, x31, x32, x33, s3⟩ := b3.out.d4
 have szb := HB4.out.size
 have HA := Lib.hid ha_
 have HB := Lib.hid hc_
 clear ha_ hc_
 go_upto_region 2 with (fail)
 have q5 := b2.out.lt
 have q6 := b3.out.lt
 change Code.wp Tryz.prog _ _ _ ((W3.alloc (.cells #[.bool k1, .slice A1 l1 c1] 25)).alloc (.cells #[.bool j1, .slice B1 o1 e1] 25))
 obtain ⟨nb5, nb6, na⟩ := new2 W3 25 [.bool k1, .slice A1 l1 c1] 25 [.bool j1, .slice B1 o1 e1] lf2 lf2
 have nb2 := b2.out.up na
 have nb3 := b3.out.up na
 have nkeep := Keep.ofBelow na
 have nbel := below_then HB4.out na HB4.out.size
 generalize (W3.alloc (.cells #[.bool k1, .slice A1 l1 c1] 25)).alloc (.cells #[.bool j1, .slice B1 o1 e1] 25) = W7 at *
 clear na x20 x21 x22 x23 x30 x31 x32 x33 szb s2 s3 b2 b3
 have b2 := Lib.hid nb2
 have b3 := Lib.hid nb3
 have b5 := Lib.hid nb5
 have b6 := Lib.hid nb6
 clear nb2 nb3 nb5 nb6
 replace H1 := Lib.hid (H1.out.kept nkeep)
 replace H2 := Lib.hid (H2.out.kept nkeep)
 replace HA := Lib.hid (HA.out.kept nkeep)
 replace HB := Lib.hid (HB.out.kept nkeep)
 clear nkeep
 have HB8 := Lib.hid nbel
 clear nbel HB4
 obtain ⟨x20, x21, x22, x23, s2⟩ := b2.out.d4
 obtain ⟨x30, x31, x32, x33, s3⟩ := b3.out.d4
 obtain ⟨x50, x51, s5⟩ := b5.out.d2
 obtain ⟨x60, x61, s6⟩ := b6.out.d2
 have szb := HB8.out.size
 go_wp2_with fail
 refine (terms_fact H2.out hn3).mono ?_
 rintro e W9 ⟨k2, A2, l2, c2, j2, B2, o2, e2, rfl, ha_, hc_, hb⟩
 replace b2 := hup b2 hb
 replace b3 := hup b3 hb
 replace b5 := hup b5 hb
 replace b6 := hup b6 hb
 replace H1 := Lib.hid (H1.out.kept (Keep.ofBelow hb))
 replace H2 := Lib.hid (H2.out.kept (Keep.ofBelow hb))
 replace HA := Lib.hid (HA.out.kept (Keep.ofBelow hb))
 replace HB := Lib.hid (HB.out.kept (Keep.ofBelow hb))
 have nbel := below_then HB8.out hb HB8.out.size
 have HB10 := Lib.hid nbel
 clear nbel HB8 hb x20 x21 x22 x23 x30 x31 x32 x33 x50 x51 x60 x61 szb s2 s3 s5 s6
 obtain ⟨x20, x21, x22, x23, s2⟩ := b2.out.d4
 obtain ⟨x30, x31, x32, x33, s3⟩ := b3.out.d4
 obtain ⟨x50, x51, s5⟩ := b5.out.d2
 obtain ⟨x60, x61, s6⟩ := b6.out.d2
 have szb := HB10.out.size
 have HC := Lib.hid ha_
 have HD := Lib.hid hc_
 clear ha_ hc_
 go_upto_region 3 with (fail)
 have q11 := b2.out.lt
 have q12 := b3.out.lt
 have q13 := b5.out.lt
 have q14 := b6.out.lt
 change Code.wp Tryz.prog _ _ _ ((W9.alloc (.cells #[.bool k2, .slice A2 l2 c2] 25)).alloc (.cells #[.bool j2, .slice B2 o2 e2] 25))
 obtain ⟨nb7, nb8, na⟩ := new2 W9 25 [.bool k2, .slice A2 l2 c2] 25 [.bool j2, .slice B2 o2 e2] lf2 lf2
 have nb2 := b2.out.up na
 have nb3 := b3.out.up na
 have nb5 := b5.out.up na
 have nb6 := b6.out.up na
 have nkeep := Keep.ofBelow na
 have nbel := below_then HB10.out na HB10.out.size
 generalize (W9.alloc (.cells #[.bool k2, .slice A2 l2 c2] 25)).alloc (.cells #[.bool j2, .slice B2 o2 e2] 25) = W15 at *
 clear na x20 x21 x22 x23 x30 x31 x32 x33 x50 x51 x60 x61 szb s2 s3 s5 s6 b2 b3 b5 b6
 have b2 := Lib.hid nb2
 have b3 := Lib.hid nb3
 have b5 := Lib.hid nb5
 have b6 := Lib.hid nb6
 have b7 := Lib.hid nb7
 have b8 := Lib.hid nb8
 clear nb2 nb3 nb5 nb6 nb7 nb8
 replace H1 := Lib.hid (H1.out.kept nkeep)
 replace H2 := Lib.hid (H2.out.kept nkeep)
 replace HA := Lib.hid (HA.out.kept nkeep)
 replace HB := Lib.hid (HB.out.kept nkeep)
 replace HC := Lib.hid (HC.out.kept nkeep)
 replace HD := Lib.hid (HD.out.kept nkeep)
 clear nkeep
 have HB16 := Lib.hid nbel
 clear nbel HB10
 obtain ⟨x20, x21, x22, x23, s2⟩ := b2.out.d4
 obtain ⟨x30, x31, x32, x33, s3⟩ := b3.out.d4
 obtain ⟨x50, x51, s5⟩ := b5.out.d2
 obtain ⟨x60, x61, s6⟩ := b6.out.d2
 obtain ⟨x70, x71, s7⟩ := b7.out.d2
 obtain ⟨x80, x81, s8⟩ := b8.out.d2
 have szb := HB16.out.size
 refine AS.region_facts (ratCmpFL x y n) (JNo W15) [[], [], [19, 20], [], [], [22, 23], [21, 24], [25]] [] [[]] [0, 0, 0, 0, 0, 0, 0, 0] [] (fun u => by simp only [ratCmpFL, AS.temps, List.map_cons, List.map_nil, fillL, List.setIfInBounds_toArray, List.set_cons_zero, List.set_cons_succ]; rfl) (by kernel_rfl) (by kernel_rfl) (JNo.st W15) (below_drew (Below.refl _ _)) ?_ ?_
 ·refine AS.sc rfl rfl rfl ?_ ?_
  ·intro k_ u w_ hk hJ hF K hK
   clear hF
   obtain rfl : k_ = 0 := Nat.le_zero.1 hk
   have hJ0 : Below W15.heap.size W15 w_ := hJ
   obtain ⟨y0, y1⟩ := ((b5.out).up hJ0).c2
   go_simp
   exact hK.out _ _ (Below.refl _ _) ((HA.out).kept (Keep.ofBelow hJ0)) trivial
  refine AS.sc rfl rfl rfl ?_ ?_
  ·intro k_ u w_ hk hJ hF K hK
   clear hF
   obtain rfl : k_ = 0 := Nat.le_zero.1 hk
   have hJ0 : Below W15.heap.size W15 w_ := hJ
   obtain ⟨y0, y1⟩ := ((b8.out).up hJ0).c2
   go_simp
   exact hK.out _ _ (Below.refl _ _) ((HD.out).kept (Keep.ofBelow hJ0)) trivial
  refine AS.sc rfl rfl rfl ?_ ?_
  ·intro k_ u w_ hk hJ hF K hK
   have h19 : PInt (x.num) n (u 19) w_ := AS.facts_get hF 19 (by simp)
   have h20 : PInt ((y.den : Int)) n (u 20) w_ := AS.facts_get hF 20 (by simp)
   clear hF
   go_simp
   refine (mul_fact h19 h20 (by omega) (by omega)).mono ?_
   rintro e w' ⟨v, rfl, hv, hb⟩
   exact hK.out _ _ hb (hv) trivial
  refine AS.sc rfl rfl rfl ?_ ?_
  ·intro k_ u w_ hk hJ hF K hK
   clear hF
   obtain rfl : k_ = 0 := Nat.le_zero.1 hk
   have hJ0 : Below W15.heap.size W15 w_ := hJ
   obtain ⟨y0, y1⟩ := ((b7.out).up hJ0).c2
   go_simp
   exact hK.out _ _ (Below.refl _ _) ((HC.out).kept (Keep.ofBelow hJ0)) trivial
  refine AS.sc rfl rfl rfl ?_ ?_
  ·intro k_ u w_ hk hJ hF K hK
   clear hF
   obtain rfl : k_ = 0 := Nat.le_zero.1 hk
   have hJ0 : Below W15.heap.size W15 w_ := hJ
   obtain ⟨y0, y1⟩ := ((b6.out).up hJ0).c2
   go_simp
   exact hK.out _ _ (Below.refl _ _) ((HB.out).kept (Keep.ofBelow hJ0)) trivial
  refine AS.sc rfl rfl rfl ?_ ?_
  ·intro k_ u w_ hk hJ hF K hK
   have h22 : PInt (y.num) n (u 22) w_ := AS.facts_get hF 22 (by simp)
   have h23 : PInt ((x.den : Int)) n (u 23) w_ := AS.facts_get hF 23 (by simp)
   clear hF
   go_simp
   refine (mul_fact h22 h23 (by omega) (by omega)).mono ?_
   rintro e w' ⟨v, rfl, hv, hb⟩
   exact hK.out _ _ hb (hv) trivial
  refine AS.sc rfl rfl rfl ?_ ?_
  ·intro k_ u w_ hk hJ hF K hK
   have h21 : PInt ((x.num) * ((y.den : Int))) (n + n) (u 21) w_ := AS.facts_get hF 21 (by simp)
   have h24 : PInt ((y.num) * ((x.den : Int))) (n + n) (u 24) w_ := AS.facts_get hF 24 (by simp)
   clear hF
   go_simp
   refine (cmp_fact h21 h24 (by omega) (by omega)).mono ?_
   rintro e w' ⟨rfl, hb⟩
   exact hK.out _ _ hb (rfl) trivial
  refine AS.sc rfl rfl rfl ?_ ?_
  ·intro k_ u w_ hk hJ hF K hK
   have h25 : u 25 = .int .i64 (cmpI ((x.num) * ((y.den : Int))) ((y.num) * ((x.den : Int)))) := AS.facts_get hF 25 (by simp)
   clear hF
   simp only [h25] at hK ⊢
   clear h25
   go_simp
   exact hK.out _ _ (Below.refl _ _) (rfl) trivial
  exact AS.StepsOk.nil
 ·intro u W17 hJ9 hF
  have h4 : u 4 = .int .i64 (cmpI ((x.num) * ((y.den : Int))) ((y.num) * ((x.den : Int)))) := AS.facts_get hF 4 (by simp [ratCmpFL, AS.temps])
  clear hF
  rw [cmp_terms] at h4
  have hbel := below_then HB16.out hJ9 HB16.out.size
  go_wp2_with fail
  refine bodyPost_ret (v := .int .i64 (cmpQ x y)) (by simp [results, Tryz.results26, go_sem, h4]) rfl ⟨rfl, hbel⟩
def RatOk (x : Rat) (n : Nat) (v : Value) (w : World) : Prop := ∃ v0, v = .tuple #[v0, .int .i64 0] ∧ PRat x n v0 w
def AS.Fact.rok (x : Rat) (n : Nat) : AS.Fact := ⟨RatOk x n, fun _ _ _ hk ⟨v0, e, h⟩ => ⟨v0, e, h.kept hk⟩⟩
theorem new_ok {p q : Int} {n m : Nat} {a b : Value} {w : World} (h1 : PInt p n a w) (h2 : PInt q m b w) (hn : n + m ≤ 100000) (hq : q ≠ 0) :
  Calls Tryz.prog 38 #[a, b] w fun e w' => ∃ v, e = .returned v ∧ RatOk (Rat.divInt p q) (max n m + 1) v w' ∧ Below w.heap.size w w' := by
 obtain ⟨k, A, l, c, rfl⟩ := h1.open
 obtain ⟨k', A', l', c', rfl⟩ := h2.open
 refine (new_fact (h1.more (Nat.le_max_left n m)) (h2.more (Nat.le_max_right n m)) (by omega) hq).mono ?_
 rintro e w' ⟨v, rfl, hv, hb⟩
 exact ⟨_, rfl, ⟨v, rfl, hv⟩, hb⟩
theorem cmpQ_self (x : Rat) : cmpQ x x = 0 := by unfold cmpQ; simp [Rat.lt_irrefl]
theorem ratCmp_eq {x : Rat} {n : Nat} {v v2 : Value} {w : World} (h : PRat x n v w) (h2 : PRat x n v2 w) (hn3 : 3 ≤ n) (hn : n ≤ 10000) :
  Calls Tryz.prog 26 #[v, v2] w fun e w' => e = .returned (.int .i64 0) ∧ Below w.heap.size w w' := by
 have := ratCmp_fact h h2 hn3 hn
 rwa [cmpQ_self] at this
def equalFL (x : Rat) (n : Nat) : List (Nat × AS.Fact) := [(5, AS.Fact.rat (x) n), (6, AS.Fact.rat (x) n), (7, AS.Fact.is (.int .i64 0)), (8, AS.Fact.is (.bool true)), (9, AS.Fact.is (.bool true)), (10, AS.Fact.rat (x) n), (11, AS.Fact.is (.string ⟨(ratText x).toArray⟩)), (12, AS.Fact.rat (x) n), (13, AS.Fact.is (.string ⟨(ratText x).toArray⟩)), (14, AS.Fact.is (.bool true)), (15, AS.Fact.is (.bool true)), (4, AS.Fact.is (.bool true))]
set_option maxRecDepth 20000 in
set_option maxHeartbeats 3200000 in
theorem equal_fact {x : Rat} {n : Nat} {v v2 : Value} {w : World} (h : PRat x n v w) (h2 : PRat x n v2 w) (hn5 : 3 ≤ n) (hn : n ≤ 10000) (ht : Tab w.heap.size w) :
  Calls Tryz.prog 32 #[v, v2] w fun e w' => e = .returned (.bool true) ∧ Below w.heap.size w w' := by
 obtain ⟨k, A, l, c, k', A', l', c', rfl⟩ := h.open
 obtain ⟨r, E, m, d, r', E', m', d', rfl⟩ := h2.open
 have H1 := Lib.hid h
 have H2 := Lib.hid h2
 have HT := Lib.hid ht
 clear h h2 ht
 go_enter Tryz.func32, Tryz.ntmps32
 go_upto_region 1 with (fail)
 change Code.wp Tryz.prog _ _ _ ((w.alloc (.cells #[.bool k, .slice A l c, .bool k', .slice A' l' c'] 27)).alloc (.cells #[.bool r, .slice E m d, .bool r', .slice E' m' d'] 27))
 obtain ⟨nb2, nb3, na⟩ := new2 w 27 [.bool k, .slice A l c, .bool k', .slice A' l' c'] 27 [.bool r, .slice E m d, .bool r', .slice E' m' d'] lf4 lf4
 have nkeep := Keep.ofBelow na
 have nbel := na
 generalize (w.alloc (.cells #[.bool k, .slice A l c, .bool k', .slice A' l' c'] 27)).alloc (.cells #[.bool r, .slice E m d, .bool r', .slice E' m' d'] 27) = W1 at *
 clear na
 have b2 := Lib.hid nb2
 have b3 := Lib.hid nb3
 clear nb2 nb3
 replace H1 := Lib.hid (H1.out.kept nkeep)
 replace H2 := Lib.hid (H2.out.kept nkeep)
 clear nkeep
 have HB2 := Lib.hid nbel
 clear nbel
 obtain ⟨x20, x21, x22, x23, s2⟩ := b2.out.d4
 obtain ⟨x30, x31, x32, x33, s3⟩ := b3.out.d4
 have szb := HB2.out.size
 have HTW := Lib.hid (tab_up HT.out HB2.out)
 refine AS.region_facts (equalFL x n) (JNo W1) [[], [], [5, 6], [7], [8], [9], [9, 10], [9], [9, 12], [9, 11, 13], [9, 14], [15]] [] [[]] [0, 0, 0, 0, 0, 0, 0, 0, 0, 0, 0, 0] [] (fun u => by simp only [equalFL, AS.temps, List.map_cons, List.map_nil, fillL, List.setIfInBounds_toArray, List.set_cons_zero, List.set_cons_succ]; rfl) (by kernel_rfl) (by kernel_rfl) (JNo.st W1) (below_drew (Below.refl _ _)) ?_ ?_
 ·refine AS.sc rfl rfl rfl ?_ ?_
  ·intro k_ u w_ hk hJ hF K hK
   clear hF
   obtain rfl : k_ = 0 := Nat.le_zero.1 hk
   have hJ0 : Below W1.heap.size W1 w_ := hJ
   obtain ⟨y0, y1, y2, y3⟩ := ((b2.out).up hJ0).c4
   go_simp
   exact hK.out _ _ (Below.refl _ _) ((H1.out).kept (Keep.ofBelow hJ0)) trivial
  refine AS.sc rfl rfl rfl ?_ ?_
  ·intro k_ u w_ hk hJ hF K hK
   clear hF
   obtain rfl : k_ = 0 := Nat.le_zero.1 hk
   have hJ0 : Below W1.heap.size W1 w_ := hJ
   obtain ⟨y0, y1, y2, y3⟩ := ((b3.out).up hJ0).c4
   go_simp
   exact hK.out _ _ (Below.refl _ _) ((H2.out).kept (Keep.ofBelow hJ0)) trivial
  refine AS.sc rfl rfl rfl ?_ ?_
  ·intro k_ u w_ hk hJ hF K hK
   have h5 : PRat (x) n (u 5) w_ := AS.facts_get hF 5 (by simp)
   have h6 : PRat (x) n (u 6) w_ := AS.facts_get hF 6 (by simp)
   clear hF
   go_simp
   refine (ratCmp_eq h5 h6 (by omega) hn).mono ?_
   rintro e w' ⟨rfl, hb⟩
   exact hK.out _ _ hb (rfl) trivial
  refine AS.sc rfl rfl rfl ?_ ?_
  ·intro k_ u w_ hk hJ hF K hK
   have h7 : u 7 = .int .i64 0 := AS.facts_get hF 7 (by simp)
   clear hF
   simp only [h7] at hK ⊢
   clear h7
   go_simp
   exact hK.out _ _ (Below.refl _ _) (rfl) trivial
  refine AS.sc rfl rfl rfl ?_ ?_
  ·intro k_ u w_ hk hJ hF K hK
   have h8 : u 8 = .bool true := AS.facts_get hF 8 (by simp)
   clear hF
   simp only [h8] at hK ⊢
   clear h8
   go_simp
   exact hK.out _ _ (Below.refl _ _) (rfl) trivial
  refine AS.sc rfl rfl rfl ?_ ?_
  ·intro k_ u w_ hk hJ hF K hK
   have h9 : u 9 = .bool true := AS.facts_get hF 9 (by simp)
   clear hF
   simp only [h9] at hK ⊢
   clear h9
   obtain rfl : k_ = 0 := Nat.le_zero.1 hk
   have hJ0 : Below W1.heap.size W1 w_ := hJ
   obtain ⟨y0, y1, y2, y3⟩ := ((b2.out).up hJ0).c4
   go_simp
   exact hK.out _ _ (Below.refl _ _) ((H1.out).kept (Keep.ofBelow hJ0)) trivial
  refine AS.sc rfl rfl rfl ?_ ?_
  ·intro k_ u w_ hk hJ hF K hK
   have h9 : u 9 = .bool true := AS.facts_get hF 9 (by simp)
   have h10 : PRat (x) n (u 10) w_ := AS.facts_get hF 10 (by simp)
   clear hF
   simp only [h9] at hK ⊢
   clear h9
   go_simp
   refine (ratText_fact h10 (by omega) hn (tab_up HTW.out hJ)).mono ?_
   rintro e w' ⟨rfl, hb⟩
   exact hK.out _ _ hb (rfl) trivial
  refine AS.sc rfl rfl rfl ?_ ?_
  ·intro k_ u w_ hk hJ hF K hK
   have h9 : u 9 = .bool true := AS.facts_get hF 9 (by simp)
   clear hF
   simp only [h9] at hK ⊢
   clear h9
   obtain rfl : k_ = 0 := Nat.le_zero.1 hk
   have hJ0 : Below W1.heap.size W1 w_ := hJ
   obtain ⟨y0, y1, y2, y3⟩ := ((b3.out).up hJ0).c4
   go_simp
   exact hK.out _ _ (Below.refl _ _) ((H2.out).kept (Keep.ofBelow hJ0)) trivial
  refine AS.sc rfl rfl rfl ?_ ?_
  ·intro k_ u w_ hk hJ hF K hK
   have h9 : u 9 = .bool true := AS.facts_get hF 9 (by simp)
   have h12 : PRat (x) n (u 12) w_ := AS.facts_get hF 12 (by simp)
   clear hF
   simp only [h9] at hK ⊢
   clear h9
   go_simp
   refine (ratText_fact h12 (by omega) hn (tab_up HTW.out hJ)).mono ?_
   rintro e w' ⟨rfl, hb⟩
   exact hK.out _ _ hb (rfl) trivial
  refine AS.sc rfl rfl rfl ?_ ?_
  ·intro k_ u w_ hk hJ hF K hK
   have h9 : u 9 = .bool true := AS.facts_get hF 9 (by simp)
   have h11 : u 11 = .string ⟨(ratText x).toArray⟩ := AS.facts_get hF 11 (by simp)
   have h13 : u 13 = .string ⟨(ratText x).toArray⟩ := AS.facts_get hF 13 (by simp)
   clear hF
   simp only [h9, h11, h13] at hK ⊢
   clear h9 h11 h13
   go_simp
   exact hK.out _ _ (Below.refl _ _) (rfl) trivial
  refine AS.sc rfl rfl rfl ?_ ?_
  ·intro k_ u w_ hk hJ hF K hK
   have h9 : u 9 = .bool true := AS.facts_get hF 9 (by simp)
   have h14 : u 14 = .bool true := AS.facts_get hF 14 (by simp)
   clear hF
   simp only [h9, h14] at hK ⊢
   clear h9 h14
   go_simp
   exact hK.out _ _ (Below.refl _ _) (rfl) trivial
  refine AS.sc rfl rfl rfl ?_ ?_
  ·intro k_ u w_ hk hJ hF K hK
   have h15 : u 15 = .bool true := AS.facts_get hF 15 (by simp)
   clear hF
   simp only [h15] at hK ⊢
   clear h15
   go_simp
   exact hK.out _ _ (Below.refl _ _) (rfl) trivial
  exact AS.StepsOk.nil
 ·intro u W3 hJ9 hF
  have h4 : u 4 = .bool true := AS.facts_get hF 4 (by simp [equalFL, AS.temps])
  clear hF
  rw [show u 4 = _ from h4]
  clear h4
  replace b2 := hup b2 hJ9
  replace b3 := hup b3 hJ9
  replace H1 := Lib.hid (H1.out.kept (Keep.ofBelow hJ9))
  replace H2 := Lib.hid (H2.out.kept (Keep.ofBelow hJ9))
  have nbel := below_then HB2.out hJ9 HB2.out.size
  have HB4 := Lib.hid nbel
  clear nbel HB2 hJ9 x20 x21 x22 x23 x30 x31 x32 x33 szb s2 s3
  obtain ⟨x20, x21, x22, x23, s2⟩ := b2.out.d4
  obtain ⟨x30, x31, x32, x33, s3⟩ := b3.out.d4
  have szb := HB4.out.size
  go_wp2_with fail
  have hkeep := (Keep.refl W3)
  have hbel := HB4.out
  refine bodyPost_ret (v := .bool true) (by simp [results, Tryz.results32, go_sem]) rfl ⟨rfl, hbel⟩
def ratPartsFL (x : Rat) (n : Nat) : List (Nat × AS.Fact) := [(9, AS.Fact.int (x.num) n), (10, AS.Fact.int (x.num) (n + 1)), (11, AS.Fact.int ((x.den : Int)) n), (12, AS.Fact.int ((x.den : Int)) (n + 1))]
set_option maxRecDepth 20000 in
set_option maxHeartbeats 3200000 in
theorem ratParts_fact {x : Rat} {n : Nat} {v : Value} {w : World} (h : PRat x n v w) (hn3 : 3 ≤ n) (hn : n ≤ 10000) :
  Calls Tryz.prog 33 #[v] w fun e w' => ∃ a b, e = .returned (.tuple #[a, b]) ∧ PInt x.num (n + 1) a w' ∧ PInt x.den (n + 1) b w' ∧ Below w.heap.size w w' := by
 obtain ⟨k, A, l, c, k', A', l', c', rfl⟩ := h.open
 have H1 := Lib.hid h
 clear h
 go_enter Tryz.func33, Tryz.ntmps33
 go_upto_region 1 with (fail)
 change Code.wp Tryz.prog _ _ _ (((w.alloc (.cells #[.bool k, .slice A l c, .bool k', .slice A' l' c'] 27)).alloc (.cells #[.bool false, .slice none 0 0] 25)).alloc (.cells #[.bool false, .slice none 0 0] 25))
 obtain ⟨nb1, nb2, nb3, na⟩ := new3 w 27 [.bool k, .slice A l c, .bool k', .slice A' l' c'] 25 [.bool false, .slice none 0 0] 25 [.bool false, .slice none 0 0] lf4 lf2 lf2
 have nkeep := Keep.ofBelow na
 have nbel := na
 generalize ((w.alloc (.cells #[.bool k, .slice A l c, .bool k', .slice A' l' c'] 27)).alloc (.cells #[.bool false, .slice none 0 0] 25)).alloc (.cells #[.bool false, .slice none 0 0] 25) = W1 at *
 clear na
 have b1 := Lib.hid nb1
 have b2 := Lib.hid nb2
 have b3 := Lib.hid nb3
 clear nb1 nb2 nb3
 replace H1 := Lib.hid (H1.out.kept nkeep)
 clear nkeep
 have HB2 := Lib.hid nbel
 clear nbel
 obtain ⟨x1_0, x1_1, x1_2, x1_3, s1⟩ := b1.out.d4
 obtain ⟨x2_0, x2_1, z2_0, z2_1, s2⟩ := b2.out.e2
 obtain ⟨x3_0, x3_1, z3_0, z3_1, s3⟩ := b3.out.e2
 have szb := HB2.out.size
 go_wp2_with fail
 refine (terms_fact H1.out hn3).mono ?_
 rintro e W3 ⟨k1, A1, l1, c1, j1, B1, o1, e1, rfl, ha_, hc_, hb⟩
 replace b1 := hup b1 hb
 replace b2 := hup b2 hb
 replace b3 := hup b3 hb
 replace H1 := Lib.hid (H1.out.kept (Keep.ofBelow hb))
 have nbel := below_then HB2.out hb HB2.out.size
 have HB4 := Lib.hid nbel
 clear nbel HB2 hb x1_0 x1_1 x1_2 x1_3 x2_0 x2_1 z2_0 z2_1 x3_0 x3_1 z3_0 z3_1 szb s1 s2 s3
 obtain ⟨x1_0, x1_1, x1_2, x1_3, s1⟩ := b1.out.d4
 obtain ⟨x2_0, x2_1, z2_0, z2_1, s2⟩ := b2.out.e2
 obtain ⟨x3_0, x3_1, z3_0, z3_1, s3⟩ := b3.out.e2
 have szb := HB4.out.size
 have HA := Lib.hid ha_
 have HB := Lib.hid hc_
 clear ha_ hc_
 go_upto_region 2 with (fail)
 change Code.wp Tryz.prog _ _ _ ((((W3.setCell ⟨w.heap.size + 1, 0, none⟩ (.bool k1)).setCell ⟨w.heap.size + 1, 1, none⟩ (.slice A1 l1 c1)).setCell ⟨w.heap.size + 1 + 1, 0, none⟩ (.bool j1)).setCell ⟨w.heap.size + 1 + 1, 1, none⟩ (.slice B1 o1 e1))
 have nb1 : Bx 27 ((((W3.setCell ⟨w.heap.size + 1, 0, none⟩ (.bool k1)).setCell ⟨w.heap.size + 1, 1, none⟩ (.slice A1 l1 c1)).setCell ⟨w.heap.size + 1 + 1, 0, none⟩ (.bool j1)).setCell ⟨w.heap.size + 1 + 1, 1, none⟩ (.slice B1 o1 e1)) w.heap.size [.bool k, .slice A l c, .bool k', .slice A' l' c'] := (Bx.far (g' := w.heap.size + 1 + 1) (Bx.far (g' := w.heap.size + 1 + 1) (Bx.far2 (g' := w.heap.size + 1) b1.out (by omega) (.bool k1) (.slice A1 l1 c1)) (by omega) 0 (.bool j1)) (by omega) 1 (.slice B1 o1 e1))
 have nb2 : Bx 25 ((((W3.setCell ⟨w.heap.size + 1, 0, none⟩ (.bool k1)).setCell ⟨w.heap.size + 1, 1, none⟩ (.slice A1 l1 c1)).setCell ⟨w.heap.size + 1 + 1, 0, none⟩ (.bool j1)).setCell ⟨w.heap.size + 1 + 1, 1, none⟩ (.slice B1 o1 e1)) (w.heap.size + 1) [.bool k1, .slice A1 l1 c1] := (Bx.far2 (g' := w.heap.size + 1 + 1) (Bx.set2 b2.out (Leaf.bool k1) (Leaf.slice A1 l1 c1)) (by omega) (.bool j1) (.slice B1 o1 e1))
 have nb3 : Bx 25 ((((W3.setCell ⟨w.heap.size + 1, 0, none⟩ (.bool k1)).setCell ⟨w.heap.size + 1, 1, none⟩ (.slice A1 l1 c1)).setCell ⟨w.heap.size + 1 + 1, 0, none⟩ (.bool j1)).setCell ⟨w.heap.size + 1 + 1, 1, none⟩ (.slice B1 o1 e1)) (w.heap.size + 1 + 1) [.bool j1, .slice B1 o1 e1] := (Bx.set2 (Bx.far2 (g' := w.heap.size + 1) b3.out (by omega) (.bool k1) (.slice A1 l1 c1)) (Leaf.bool j1) (Leaf.slice B1 o1 e1))
 have nkeep := (Keep.set (Keep.set (Keep.set2 (Keep.refl W3) b2.out (Leaf.bool k1) (Leaf.slice A1 l1 c1)) (Bx.far2 (g' := w.heap.size + 1) b3.out (by omega) (.bool k1) (.slice A1 l1 c1)) 0 (Leaf.bool j1)) (Bx.set (Bx.far2 (g' := w.heap.size + 1) b3.out (by omega) (.bool k1) (.slice A1 l1 c1)) 0 (Leaf.bool j1)) 1 (Leaf.slice B1 o1 e1))
 have nbel : Below w.heap.size w ((((W3.setCell ⟨w.heap.size + 1, 0, none⟩ (.bool k1)).setCell ⟨w.heap.size + 1, 1, none⟩ (.slice A1 l1 c1)).setCell ⟨w.heap.size + 1 + 1, 0, none⟩ (.bool j1)).setCell ⟨w.heap.size + 1 + 1, 1, none⟩ (.slice B1 o1 e1)) := (Below.setCell (p := ⟨w.heap.size + 1 + 1, 1, none⟩) (Below.setCell (p := ⟨w.heap.size + 1 + 1, 0, none⟩) (Below.set2 (g := w.heap.size + 1) HB4.out (by first | omega | (simp; done) | (simp; omega)) (.bool k1) (.slice A1 l1 c1)) (by first | omega | (simp; done) | (simp; omega)) (.bool j1)) (by first | omega | (simp; done) | (simp; omega)) (.slice B1 o1 e1))
 generalize (((W3.setCell ⟨w.heap.size + 1, 0, none⟩ (.bool k1)).setCell ⟨w.heap.size + 1, 1, none⟩ (.slice A1 l1 c1)).setCell ⟨w.heap.size + 1 + 1, 0, none⟩ (.bool j1)).setCell ⟨w.heap.size + 1 + 1, 1, none⟩ (.slice B1 o1 e1) = W5 at *
 clear x1_0 x1_1 x1_2 x1_3 x2_0 x2_1 z2_0 z2_1 x3_0 x3_1 z3_0 z3_1 szb s1 s2 s3 b1 b2 b3
 have b1 := Lib.hid nb1
 have b2 := Lib.hid nb2
 have b3 := Lib.hid nb3
 clear nb1 nb2 nb3
 replace H1 := Lib.hid (H1.out.kept nkeep)
 replace HA := Lib.hid (HA.out.kept nkeep)
 replace HB := Lib.hid (HB.out.kept nkeep)
 clear nkeep
 have HB6 := Lib.hid nbel
 clear nbel HB4
 obtain ⟨x1_0, x1_1, x1_2, x1_3, s1⟩ := b1.out.d4
 obtain ⟨x2_0, x2_1, z2_0, z2_1, s2⟩ := b2.out.e2
 obtain ⟨x3_0, x3_1, z3_0, z3_1, s3⟩ := b3.out.e2
 have szb := HB6.out.size
 refine AS.region_facts (ratPartsFL x n) (JRes2 w W5 25 25 (w.heap.size + 1) (w.heap.size + 1 + 1) [(27, w.heap.size, [.bool k, .slice A l c, .bool k', .slice A' l' c'])]) [[], [9], [], [11], [10], [12]] [4, 5] [[], [10], [10, 12]] [0, 2, 0, 2, 2, 2] [] (fun u => by simp only [ratPartsFL, AS.temps, List.map_cons, List.map_nil, fillL, List.setIfInBounds_toArray, List.set_cons_zero, List.set_cons_succ]; rfl) (by kernel_rfl) (by kernel_rfl) (JRes2.st w W5 25 25 (w.heap.size + 1) (w.heap.size + 1 + 1) [(27, w.heap.size, [.bool k, .slice A l c, .bool k', .slice A' l' c'])]) (below_drew (Below.refl _ _)) ?_ ?_
 ·refine AS.sc rfl rfl rfl ?_ ?_
  ·intro k_ u w_ hk hJ hF K hK
   clear hF
   obtain rfl : k_ = 0 := Nat.le_zero.1 hk
   have hJ0 : Below W5.heap.size W5 w_ := hJ
   obtain ⟨y0, y1⟩ := ((b2.out).up hJ0).c2
   go_simp
   exact hK.out _ _ (Below.refl _ _) ((HA.out).kept (Keep.ofBelow hJ0)) trivial
  refine AS.sc rfl rfl rfl ?_ ?_
  ·intro k_ u w_ hk hJ hF K hK
   have h9 : PInt (x.num) n (u 9) w_ := AS.facts_get hF 9 (by simp)
   clear hF
   go_simp
   refine (copied_fact h9 (by omega)).mono ?_
   rintro e w' ⟨v, rfl, hv, hb⟩
   exact hK.out _ _ hb (hv) trivial
  refine AS.sc rfl rfl rfl ?_ ?_
  ·intro k_ u w_ hk hJ hF K hK
   clear hF
   obtain rfl : k_ = 0 := Nat.le_zero.1 hk
   have hJ0 : Below W5.heap.size W5 w_ := hJ
   obtain ⟨y0, y1⟩ := ((b3.out).up hJ0).c2
   go_simp
   exact hK.out _ _ (Below.refl _ _) ((HB.out).kept (Keep.ofBelow hJ0)) trivial
  refine AS.sc rfl rfl rfl ?_ ?_
  ·intro k_ u w_ hk hJ hF K hK
   have h11 : PInt ((x.den : Int)) n (u 11) w_ := AS.facts_get hF 11 (by simp)
   clear hF
   go_simp
   refine (copied_fact h11 (by omega)).mono ?_
   rintro e w' ⟨v, rfl, hv, hb⟩
   exact hK.out _ _ hb (hv) trivial
  refine AS.ss rfl rfl ?_ ?_
  ·intro u w_ hJ hAp hF K hK
   have h10 : PInt (x.num) (n + 1) (u 10) w_ := AS.facts_get hF 10 (by simp)
   clear hF
   obtain ⟨k1, A1, l1, c1, e_⟩ := h10.open
   have hJ0 : Below W5.heap.size W5 w_ := hJ
   have bx := (b2.out).up hJ0
   have hbel := below_then HB6.out hJ0 HB6.out.size
   have bx2 := (b3.out).up hJ0
   have ob1 := (b1.out).up hJ0
   have y0 := bx.cell 0
   have z0 := bx.frozen 0
   have y1 := bx.cell 1
   have z1 := bx.frozen 1
   simp only [List.getElem?_cons_zero, List.getElem?_cons_succ] at y0 y1
   have hob2 : ∀ b_ ∈ ([(27, w.heap.size, [.bool k, .slice A l c, .bool k', .slice A' l' c'])] : List (TypeId × Nat × List Value)), Bx b_.1 ((w_.setCell ⟨w.heap.size + 1, 0, none⟩ (.bool k1)).setCell ⟨w.heap.size + 1, 1, none⟩ (.slice A1 l1 c1)) b_.2.1 b_.2.2 := by
    intro b_ hb_
    simp only [List.mem_cons, List.not_mem_nil, or_false] at hb_
    rcases hb_ with rfl
    ·exact (Bx.far2 (g' := w.heap.size + 1) ob1 (show w.heap.size + 1 ≠ w.heap.size by omega) (.bool k1) (.slice A1 l1 c1))
   simp only [e_] at hK ⊢
   go_simp
   exact hK.out undef _ ⟨⟨(Below.setCell (p := ⟨w.heap.size + 1, 1, none⟩) (Below.setCell (p := ⟨w.heap.size + 1, 0, none⟩) hbel (by first | omega | (simp; done) | (simp; omega)) (.bool k1)) (by first | omega | (simp; done) | (simp; omega)) (.slice A1 l1 c1)), (by simp only [setCell_size]; first | exact hsz | exact Nat.le_trans HB6.out.size hJ0.size)⟩, hob2, ⟨[.bool k1, .slice A1 l1 c1], by simp [e_], (Bx.set2 bx (Leaf.bool k1) (Leaf.slice A1 l1 c1))⟩, _, _, (Bx.far2 (g' := w.heap.size + 1) bx2 (by omega) (.bool k1) (.slice A1 l1 c1))⟩ (Keep.set2 (Keep.refl w_) bx (Leaf.bool k1) (Leaf.slice A1 l1 c1))
  refine AS.ss rfl rfl ?_ ?_
  ·intro u w_ hJ hAp hF K hK
   have h12 : PInt ((x.den : Int)) (n + 1) (u 12) w_ := AS.facts_get hF 12 (by simp)
   clear hF
   obtain ⟨k1, A1, l1, c1, e_⟩ := h12.open
   obtain ⟨⟨hbel, hsz⟩, hob, ⟨vs, hvs, bx1⟩, x_, y_, bx⟩ := hJ
   have ob1 := hob (27, w.heap.size, [.bool k, .slice A l c, .bool k', .slice A' l' c']) (by simp)
   clear hob
   have y0 := bx.cell 0
   have z0 := bx.frozen 0
   have y1 := bx.cell 1
   have z1 := bx.frozen 1
   simp only [List.getElem?_cons_zero, List.getElem?_cons_succ] at y0 y1
   have hob2 : ∀ b_ ∈ ([(27, w.heap.size, [.bool k, .slice A l c, .bool k', .slice A' l' c'])] : List (TypeId × Nat × List Value)), Bx b_.1 ((w_.setCell ⟨w.heap.size + 1 + 1, 0, none⟩ (.bool k1)).setCell ⟨w.heap.size + 1 + 1, 1, none⟩ (.slice A1 l1 c1)) b_.2.1 b_.2.2 := by
    intro b_ hb_
    simp only [List.mem_cons, List.not_mem_nil, or_false] at hb_
    rcases hb_ with rfl
    ·exact (Bx.far2 (g' := w.heap.size + 1 + 1) ob1 (show w.heap.size + 1 + 1 ≠ w.heap.size by omega) (.bool k1) (.slice A1 l1 c1))
   simp only [e_] at hK ⊢
   go_simp
   exact hK.out undef _ ⟨⟨(Below.setCell (p := ⟨w.heap.size + 1 + 1, 1, none⟩) (Below.setCell (p := ⟨w.heap.size + 1 + 1, 0, none⟩) hbel (by first | omega | (simp; done) | (simp; omega)) (.bool k1)) (by first | omega | (simp; done) | (simp; omega)) (.slice A1 l1 c1)), (by simp only [setCell_size]; first | exact hsz | exact Nat.le_trans HB6.out.size hJ0.size)⟩, hob2, vs, [.bool k1, .slice A1 l1 c1], by simp [e_, List.cons.inj hvs], (Bx.far (g' := w.heap.size + 1 + 1) (Bx.far (g' := w.heap.size + 1 + 1) bx1 (by omega) 0 (.bool k1)) (by omega) 1 (.slice A1 l1 c1)), (Bx.set2 bx (Leaf.bool k1) (Leaf.slice A1 l1 c1))⟩ (Keep.set2 (Keep.refl w_) bx (Leaf.bool k1) (Leaf.slice A1 l1 c1))
  exact AS.StepsOk.nil
 ·intro u W7 hJ9 hF
  have h10 : PInt (x.num) (n + 1) (u 10) W7 := AS.facts_get hF 10 (by simp [ratPartsFL, AS.temps])
  have h12 : PInt ((x.den : Int)) (n + 1) (u 12) W7 := AS.facts_get hF 12 (by simp [ratPartsFL, AS.temps])
  clear hF
  obtain ⟨⟨hbel, -⟩, -, vs, vs2, hvs, hbx, hbx2⟩ := hJ9
  obtain ⟨ka, Aa, la, ca, ea⟩ := h10.open
  obtain ⟨kb, Ab, lb, cb, eb⟩ := h12.open
  rw [ea] at h10
  rw [eb] at h12
  obtain rfl : vs = [.bool ka, .slice Aa la ca] := by
   have e1 := (List.cons.inj hvs).1
   rw [show u 10 = _ from ea] at e1
   have e2 := congrArg Array.toList (Value.agg.inj e1)
   simpa using e2.symm
  obtain rfl : vs2 = [.bool kb, .slice Ab lb cb] := by
   have e1 := (List.cons.inj (List.cons.inj hvs).2).1
   rw [show u 12 = _ from eb] at e1
   have e2 := congrArg Array.toList (Value.agg.inj e1)
   simpa using e2.symm
  have y0 := hbx.cell 0
  have z0 := hbx2.cell 0
  have y1 := hbx.cell 1
  have z1 := hbx2.cell 1
  simp only [List.getElem?_cons_zero, List.getElem?_cons_succ] at y0 y1 z0 z1
  go_wp2_with fail
  refine bodyPost_ret (v := .tuple #[.agg #[.bool ka, .slice Aa la ca], .agg #[.bool kb, .slice Ab lb cb]]) (by simp [results, Tryz.results33, go_sem, y0, y1, z0, z1]) rfl ⟨_, _, rfl, h10, h12, hbel⟩
theorem common {x : Rat} {z : Int} (hz : z ≠ 0) : Rat.divInt (x.num * z) ((x.den : Int) * z) = x := by
 rw [Rat.divInt_mul_right hz, Rat.num_divInt_den]
theorem text_is {z : Int} {n : Nat} {a : Value} {w : World} {T : Array UInt8} (h1 : PInt z n a w) (hn : n ≤ 100000) (ht : Tab w.heap.size w) (hT : (decZ z).toArray = T) :
  Calls Tryz.prog 36 #[a] w fun e w' => e = .returned (.string ⟨T⟩) ∧ Below w.heap.size w w' := hT ▸ text_fact h1 hn ht
theorem txt1 : (decZ 1).toArray = #[49] := by decide +kernel
def lowestFL (x : Rat) (z : Int) (W31 : World) : List (Nat × AS.Fact) := [(61, AS.Fact.int (x.num) 224), (62, AS.Fact.int (z) 223), (63, AS.Fact.int (x.num * z) 447), (64, AS.Fact.int ((x.den : Int)) 224), (65, AS.Fact.int (z) 223), (66, AS.Fact.int ((x.den : Int) * z) 447), (67, AS.Fact.rok x 448), (60, AS.Fact.rok x 448), (68, AS.Fact.rat (x) 448), (69, AS.Fact.is (.int .i64 0)), (14, AS.Fact.isBox4 27 W31.heap.size), (15, AS.Fact.is (.int .i64 0))]
set_option maxRecDepth 20000 in
set_option maxHeartbeats 12800000 in
theorem law_lowest (s t : ByteArray) (w : World) (hm : MaxOk w) (ht : Tab w.heap.size w) :
  Calls Tryz.prog 7 #[.string s, .string t] w fun e w' => e = .returned (.bool true) ∧ Below w.heap.size w w' := by
 have HM := Lib.hid hm
 have HT := Lib.hid ht
 clear hm ht
 go_enter Tryz.func7, Tryz.ntmps7
 go_wp2_with fail
 refine (awake_fact HT.out).mono ?_
 rintro e W1 ⟨rfl, hb⟩
 have nbel := hb
 have HB2 := Lib.hid nbel
 clear nbel hb
 have szb := HB2.out.size
 go_wp2_with fail
 refine (both_fact s ⟨#[48]⟩ _ (HM.out.up HB2.out)).mono ?_
 rintro e W3 ⟨k1, A1, l1, c1, m1, E1, p1, q1, k2, A2, l2, c2, m2, E2, p2, q2, k3, A3, l3, c3, m3, E3, p3, q3, k4, A4, l4, c4, m4, E4, p4, q4, ok, rfl, hv, hb⟩
 have nbel := below_then HB2.out hb HB2.out.size
 have HB4 := Lib.hid nbel
 clear nbel HB2 hb szb
 have szb := HB4.out.size
 generalize ratV s.data.toList = x at hv
 have HB0 := Lib.hid (OkP.mk hv)
 clear hv
 go_upto_region 4 with (fail)
 change Code.wp Tryz.prog _ _ _ ((((W3.alloc (.cells #[.bool k1, .slice A1 l1 c1, .bool m1, .slice E1 p1 q1] 27)).alloc (.cells #[.bool k2, .slice A2 l2 c2, .bool m2, .slice E2 p2 q2] 27)).alloc (.cells #[.bool k3, .slice A3 l3 c3, .bool m3, .slice E3 p3 q3] 35)).alloc (.cells #[.bool k4, .slice A4 l4 c4, .bool m4, .slice E4 p4 q4] 35))
 obtain ⟨nb5, nb6, nb7, nb8, na⟩ := new4 W3 27 [.bool k1, .slice A1 l1 c1, .bool m1, .slice E1 p1 q1] 27 [.bool k2, .slice A2 l2 c2, .bool m2, .slice E2 p2 q2] 35 [.bool k3, .slice A3 l3 c3, .bool m3, .slice E3 p3 q3] 35 [.bool k4, .slice A4 l4 c4, .bool m4, .slice E4 p4 q4] lf4 lf4 lf4 lf4
 have nkeep := Keep.ofBelow na
 have nbel := below_then HB4.out na HB4.out.size
 generalize (((W3.alloc (.cells #[.bool k1, .slice A1 l1 c1, .bool m1, .slice E1 p1 q1] 27)).alloc (.cells #[.bool k2, .slice A2 l2 c2, .bool m2, .slice E2 p2 q2] 27)).alloc (.cells #[.bool k3, .slice A3 l3 c3, .bool m3, .slice E3 p3 q3] 35)).alloc (.cells #[.bool k4, .slice A4 l4 c4, .bool m4, .slice E4 p4 q4] 35) = W5 at *
 clear na szb
 have b5 := Lib.hid nb5
 have b6 := Lib.hid nb6
 have b7 := Lib.hid nb7
 have b8 := Lib.hid nb8
 clear nb5 nb6 nb7 nb8
 replace HB0 := Lib.hid (HB0.out.kept nkeep)
 clear nkeep
 have HB6 := Lib.hid nbel
 clear nbel HB4
 obtain ⟨x5_0, x5_1, x5_2, x5_3, s5⟩ := b5.out.d4
 obtain ⟨x6_0, x6_1, x6_2, x6_3, s6⟩ := b6.out.d4
 obtain ⟨x7_0, x7_1, x7_2, x7_3, s7⟩ := b7.out.d4
 obtain ⟨x8_0, x8_1, x8_2, x8_3, s8⟩ := b8.out.d4
 have szb := HB6.out.size
 cases ok with
 | false =>
  go_wp2_with fail
  have hkeep := (Keep.refl W5)
  have hbel := HB6.out
  refine bodyPost_ret (v := .bool true) (by simp [results, Tryz.results7, go_sem]) rfl ⟨rfl, hbel⟩
 | true =>
  have hh := HB0.out.go rfl
  have HX := Lib.hid hh.1
  clear hh HB0
  obtain ⟨bl, hbl⟩ : ∃ b, decide ((100 : Int) < ((t.size : Nat) : Int)) = b := ⟨_, rfl⟩
  cases bl with
  | true =>
   go_wp2_with fail
   have hkeep := (Keep.refl W5)
   have hbel := HB6.out
   refine bodyPost_ret (v := .bool true) (by simp [results, Tryz.results7, go_sem]) rfl ⟨rfl, hbel⟩
  | false =>
   have hts : t.size ≤ 100 := by simp at hbl; omega
   have HTS := Lib.hid hts
   clear hts
   go_wp2_with fail
   refine (ratParts_fact HX.out (by decide) (by decide)).mono ?_
   rintro e W7 ⟨v, v2, rfl, hp, hq, hb⟩
   replace b5 := hup b5 hb
   replace b6 := hup b6 hb
   replace b7 := hup b7 hb
   replace b8 := hup b8 hb
   replace HX := Lib.hid (HX.out.kept (Keep.ofBelow hb))
   have nbel := below_then HB6.out hb HB6.out.size
   have HB8 := Lib.hid nbel
   clear nbel HB6 hb x5_0 x5_1 x5_2 x5_3 x6_0 x6_1 x6_2 x6_3 x7_0 x7_1 x7_2 x7_3 x8_0 x8_1 x8_2 x8_3 szb s5 s6 s7 s8
   obtain ⟨x5_0, x5_1, x5_2, x5_3, s5⟩ := b5.out.d4
   obtain ⟨x6_0, x6_1, x6_2, x6_3, s6⟩ := b6.out.d4
   obtain ⟨x7_0, x7_1, x7_2, x7_3, s7⟩ := b7.out.d4
   obtain ⟨x8_0, x8_1, x8_2, x8_3, s8⟩ := b8.out.d4
   have szb := HB8.out.size
   clear hbl
   obtain ⟨k5, A5, l5, c5, rfl⟩ := hp.open
   obtain ⟨k6, A6, l6, c6, rfl⟩ := hq.open
   have HP := Lib.hid hp
   have HQ := Lib.hid hq
   clear hp hq
   go_upto_region 7 with (fail)
   have q9 := b5.out.lt
   have q10 := b6.out.lt
   have q11 := b7.out.lt
   have q12 := b8.out.lt
   change Code.wp Tryz.prog _ _ _ ((W7.alloc (.cells #[.bool k5, .slice A5 l5 c5] 25)).alloc (.cells #[.bool k6, .slice A6 l6 c6] 25))
   obtain ⟨nb10, nb11, na⟩ := new2 W7 25 [.bool k5, .slice A5 l5 c5] 25 [.bool k6, .slice A6 l6 c6] lf2 lf2
   have nb5 := b5.out.up na
   have nb6 := b6.out.up na
   have nb7 := b7.out.up na
   have nb8 := b8.out.up na
   have nkeep := Keep.ofBelow na
   have nbel := below_then HB8.out na HB8.out.size
   generalize (W7.alloc (.cells #[.bool k5, .slice A5 l5 c5] 25)).alloc (.cells #[.bool k6, .slice A6 l6 c6] 25) = W13 at *
   clear na x5_0 x5_1 x5_2 x5_3 x6_0 x6_1 x6_2 x6_3 x7_0 x7_1 x7_2 x7_3 x8_0 x8_1 x8_2 x8_3 szb s5 s6 s7 s8 b5 b6 b7 b8
   have b5 := Lib.hid nb5
   have b6 := Lib.hid nb6
   have b7 := Lib.hid nb7
   have b8 := Lib.hid nb8
   have b10 := Lib.hid nb10
   have b11 := Lib.hid nb11
   clear nb5 nb6 nb7 nb8 nb10 nb11
   replace HX := Lib.hid (HX.out.kept nkeep)
   replace HP := Lib.hid (HP.out.kept nkeep)
   replace HQ := Lib.hid (HQ.out.kept nkeep)
   clear nkeep
   have HB14 := Lib.hid nbel
   clear nbel HB8
   obtain ⟨x5_0, x5_1, x5_2, x5_3, s5⟩ := b5.out.d4
   obtain ⟨x6_0, x6_1, x6_2, x6_3, s6⟩ := b6.out.d4
   obtain ⟨x7_0, x7_1, x7_2, x7_3, s7⟩ := b7.out.d4
   obtain ⟨x8_0, x8_1, x8_2, x8_3, s8⟩ := b8.out.d4
   obtain ⟨x10_0, x10_1, s10⟩ := b10.out.d2
   obtain ⟨x11_0, x11_1, s11⟩ := b11.out.d2
   have szb := HB14.out.size
   obtain ⟨er, her⟩ : ∃ e, errOf t.data.toList = e := ⟨_, rfl⟩
   obtain ⟨z, hz⟩ : ∃ z, valZ t.data.toList = z := ⟨_, rfl⟩
   have hpf := fun w => parse_fact t w (by have := HTS.out; omega)
   rw [her, hz] at hpf
   have HPF := Lib.hid hpf
   clear hpf her hz
   go_wp2_with fail
   refine (HPF.out _).mono ?_
   rintro e W15 ⟨v, rfl, hv, hb⟩
   replace b5 := hup b5 hb
   replace b6 := hup b6 hb
   replace b7 := hup b7 hb
   replace b8 := hup b8 hb
   replace b10 := hup b10 hb
   replace b11 := hup b11 hb
   replace HX := Lib.hid (HX.out.kept (Keep.ofBelow hb))
   replace HP := Lib.hid (HP.out.kept (Keep.ofBelow hb))
   replace HQ := Lib.hid (HQ.out.kept (Keep.ofBelow hb))
   have nbel := below_then HB14.out hb HB14.out.size
   have HB16 := Lib.hid nbel
   clear nbel HB14 hb x5_0 x5_1 x5_2 x5_3 x6_0 x6_1 x6_2 x6_3 x7_0 x7_1 x7_2 x7_3 x8_0 x8_1 x8_2 x8_3 x10_0 x10_1 x11_0 x11_1 szb s5 s6 s7 s8 s10 s11
   obtain ⟨x5_0, x5_1, x5_2, x5_3, s5⟩ := b5.out.d4
   obtain ⟨x6_0, x6_1, x6_2, x6_3, s6⟩ := b6.out.d4
   obtain ⟨x7_0, x7_1, x7_2, x7_3, s7⟩ := b7.out.d4
   obtain ⟨x8_0, x8_1, x8_2, x8_3, s8⟩ := b8.out.d4
   obtain ⟨x10_0, x10_1, s10⟩ := b10.out.d2
   obtain ⟨x11_0, x11_1, s11⟩ := b11.out.d2
   have szb := HB16.out.size
   obtain ⟨k7, A7, l7, c7, rfl⟩ := hv.open
   have HK := Lib.hid hv
   clear hv HPF
   go_upto_region 8 with (fail)
   have q17 := b5.out.lt
   have q18 := b6.out.lt
   have q19 := b7.out.lt
   have q20 := b8.out.lt
   have q21 := b10.out.lt
   have q22 := b11.out.lt
   change Code.wp Tryz.prog _ _ _ (W15.alloc (.cells #[.bool k7, .slice A7 l7 c7] 25))
   obtain ⟨nb12, na⟩ := new1 W15 25 [.bool k7, .slice A7 l7 c7] lf2
   have nb5 := b5.out.up na
   have nb6 := b6.out.up na
   have nb7 := b7.out.up na
   have nb8 := b8.out.up na
   have nb10 := b10.out.up na
   have nb11 := b11.out.up na
   have nkeep := Keep.ofBelow na
   have nbel := below_then HB16.out na HB16.out.size
   generalize W15.alloc (.cells #[.bool k7, .slice A7 l7 c7] 25) = W23 at *
   clear na x5_0 x5_1 x5_2 x5_3 x6_0 x6_1 x6_2 x6_3 x7_0 x7_1 x7_2 x7_3 x8_0 x8_1 x8_2 x8_3 x10_0 x10_1 x11_0 x11_1 szb s5 s6 s7 s8 s10 s11 b5 b6 b7 b8 b10 b11
   have b5 := Lib.hid nb5
   have b6 := Lib.hid nb6
   have b7 := Lib.hid nb7
   have b8 := Lib.hid nb8
   have b10 := Lib.hid nb10
   have b11 := Lib.hid nb11
   have b12 := Lib.hid nb12
   clear nb5 nb6 nb7 nb8 nb10 nb11 nb12
   replace HX := Lib.hid (HX.out.kept nkeep)
   replace HP := Lib.hid (HP.out.kept nkeep)
   replace HQ := Lib.hid (HQ.out.kept nkeep)
   replace HK := Lib.hid (HK.out.kept nkeep)
   clear nkeep
   have HB24 := Lib.hid nbel
   clear nbel HB16
   obtain ⟨x5_0, x5_1, x5_2, x5_3, s5⟩ := b5.out.d4
   obtain ⟨x6_0, x6_1, x6_2, x6_3, s6⟩ := b6.out.d4
   obtain ⟨x7_0, x7_1, x7_2, x7_3, s7⟩ := b7.out.d4
   obtain ⟨x8_0, x8_1, x8_2, x8_3, s8⟩ := b8.out.d4
   obtain ⟨x10_0, x10_1, s10⟩ := b10.out.d2
   obtain ⟨x11_0, x11_1, s11⟩ := b11.out.d2
   obtain ⟨x12_0, x12_1, s12⟩ := b12.out.d2
   have szb := HB24.out.size
   go_wp2_with fail
   refine (sign_is (c := 1) HQ.out (by unfold cmpI; have := x.den_pos; rw [if_neg (by omega), if_neg (by omega)])).mono ?_
   rintro e W25 ⟨rfl, hb⟩
   replace b5 := hup b5 hb
   replace b6 := hup b6 hb
   replace b7 := hup b7 hb
   replace b8 := hup b8 hb
   replace b10 := hup b10 hb
   replace b11 := hup b11 hb
   replace b12 := hup b12 hb
   replace HX := Lib.hid (HX.out.kept (Keep.ofBelow hb))
   replace HP := Lib.hid (HP.out.kept (Keep.ofBelow hb))
   replace HQ := Lib.hid (HQ.out.kept (Keep.ofBelow hb))
   replace HK := Lib.hid (HK.out.kept (Keep.ofBelow hb))
   have nbel := below_then HB24.out hb HB24.out.size
   have HB26 := Lib.hid nbel
   clear nbel HB24 hb x5_0 x5_1 x5_2 x5_3 x6_0 x6_1 x6_2 x6_3 x7_0 x7_1 x7_2 x7_3 x8_0 x8_1 x8_2 x8_3 x10_0 x10_1 x11_0 x11_1 x12_0 x12_1 szb s5 s6 s7 s8 s10 s11 s12
   obtain ⟨x5_0, x5_1, x5_2, x5_3, s5⟩ := b5.out.d4
   obtain ⟨x6_0, x6_1, x6_2, x6_3, s6⟩ := b6.out.d4
   obtain ⟨x7_0, x7_1, x7_2, x7_3, s7⟩ := b7.out.d4
   obtain ⟨x8_0, x8_1, x8_2, x8_3, s8⟩ := b8.out.d4
   obtain ⟨x10_0, x10_1, s10⟩ := b10.out.d2
   obtain ⟨x11_0, x11_1, s11⟩ := b11.out.d2
   obtain ⟨x12_0, x12_1, s12⟩ := b12.out.d2
   have szb := HB26.out.size
   go_wp2_with fail
   refine (gcd_fact HP.out HQ.out (by decide) (by decide)).mono ?_
   rintro e W27 ⟨v, rfl, hv, hb⟩
   replace b5 := hup b5 hb
   replace b6 := hup b6 hb
   replace b7 := hup b7 hb
   replace b8 := hup b8 hb
   replace b10 := hup b10 hb
   replace b11 := hup b11 hb
   replace b12 := hup b12 hb
   replace HX := Lib.hid (HX.out.kept (Keep.ofBelow hb))
   replace HP := Lib.hid (HP.out.kept (Keep.ofBelow hb))
   replace HQ := Lib.hid (HQ.out.kept (Keep.ofBelow hb))
   replace HK := Lib.hid (HK.out.kept (Keep.ofBelow hb))
   have nbel := below_then HB26.out hb HB26.out.size
   have HB28 := Lib.hid nbel
   clear nbel HB26 hb x5_0 x5_1 x5_2 x5_3 x6_0 x6_1 x6_2 x6_3 x7_0 x7_1 x7_2 x7_3 x8_0 x8_1 x8_2 x8_3 x10_0 x10_1 x11_0 x11_1 x12_0 x12_1 szb s5 s6 s7 s8 s10 s11 s12
   obtain ⟨x5_0, x5_1, x5_2, x5_3, s5⟩ := b5.out.d4
   obtain ⟨x6_0, x6_1, x6_2, x6_3, s6⟩ := b6.out.d4
   obtain ⟨x7_0, x7_1, x7_2, x7_3, s7⟩ := b7.out.d4
   obtain ⟨x8_0, x8_1, x8_2, x8_3, s8⟩ := b8.out.d4
   obtain ⟨x10_0, x10_1, s10⟩ := b10.out.d2
   obtain ⟨x11_0, x11_1, s11⟩ := b11.out.d2
   obtain ⟨x12_0, x12_1, s12⟩ := b12.out.d2
   have szb := HB28.out.size
   have hg1 : (Int.gcd x.num (x.den : Int) : Int) = 1 := by have := x.reduced; show ((Nat.gcd x.num.natAbs x.den : Nat) : Int) = 1; rw [show Nat.gcd x.num.natAbs x.den = 1 from this]; rfl
   rw [hg1] at hv
   clear hg1
   have HG := Lib.hid hv
   clear hv
   go_wp2_with fail
   refine (text_is HG.out (by decide) (tab_up HT.out HB28.out) txt1).mono ?_
   rintro e W29 ⟨rfl, hb⟩
   replace b5 := hup b5 hb
   replace b6 := hup b6 hb
   replace b7 := hup b7 hb
   replace b8 := hup b8 hb
   replace b10 := hup b10 hb
   replace b11 := hup b11 hb
   replace b12 := hup b12 hb
   replace HX := Lib.hid (HX.out.kept (Keep.ofBelow hb))
   replace HP := Lib.hid (HP.out.kept (Keep.ofBelow hb))
   replace HQ := Lib.hid (HQ.out.kept (Keep.ofBelow hb))
   replace HK := Lib.hid (HK.out.kept (Keep.ofBelow hb))
   replace HG := Lib.hid (HG.out.kept (Keep.ofBelow hb))
   have nbel := below_then HB28.out hb HB28.out.size
   have HB30 := Lib.hid nbel
   clear nbel HB28 hb x5_0 x5_1 x5_2 x5_3 x6_0 x6_1 x6_2 x6_3 x7_0 x7_1 x7_2 x7_3 x8_0 x8_1 x8_2 x8_3 x10_0 x10_1 x11_0 x11_1 x12_0 x12_1 szb s5 s6 s7 s8 s10 s11 s12
   obtain ⟨x5_0, x5_1, x5_2, x5_3, s5⟩ := b5.out.d4
   obtain ⟨x6_0, x6_1, x6_2, x6_3, s6⟩ := b6.out.d4
   obtain ⟨x7_0, x7_1, x7_2, x7_3, s7⟩ := b7.out.d4
   obtain ⟨x8_0, x8_1, x8_2, x8_3, s8⟩ := b8.out.d4
   obtain ⟨x10_0, x10_1, s10⟩ := b10.out.d2
   obtain ⟨x11_0, x11_1, s11⟩ := b11.out.d2
   obtain ⟨x12_0, x12_1, s12⟩ := b12.out.d2
   have szb := HB30.out.size
   by_cases he : er = 0
   ·subst he
    obtain ⟨sg, hsg⟩ : ∃ c, cmpI z 0 = c := ⟨_, rfl⟩
    have QS := Lib.hid hsg
    clear hsg
    go_wp2_with fail
    refine (sign_is HK.out QS.out).mono ?_
    rintro e W31 ⟨rfl, hb⟩
    replace b5 := hup b5 hb
    replace b6 := hup b6 hb
    replace b7 := hup b7 hb
    replace b8 := hup b8 hb
    replace b10 := hup b10 hb
    replace b11 := hup b11 hb
    replace b12 := hup b12 hb
    replace HX := Lib.hid (HX.out.kept (Keep.ofBelow hb))
    replace HP := Lib.hid (HP.out.kept (Keep.ofBelow hb))
    replace HQ := Lib.hid (HQ.out.kept (Keep.ofBelow hb))
    replace HK := Lib.hid (HK.out.kept (Keep.ofBelow hb))
    replace HG := Lib.hid (HG.out.kept (Keep.ofBelow hb))
    have nbel := below_then HB30.out hb HB30.out.size
    have HB32 := Lib.hid nbel
    clear nbel HB30 hb x5_0 x5_1 x5_2 x5_3 x6_0 x6_1 x6_2 x6_3 x7_0 x7_1 x7_2 x7_3 x8_0 x8_1 x8_2 x8_3 x10_0 x10_1 x11_0 x11_1 x12_0 x12_1 szb s5 s6 s7 s8 s10 s11 s12
    obtain ⟨x5_0, x5_1, x5_2, x5_3, s5⟩ := b5.out.d4
    obtain ⟨x6_0, x6_1, x6_2, x6_3, s6⟩ := b6.out.d4
    obtain ⟨x7_0, x7_1, x7_2, x7_3, s7⟩ := b7.out.d4
    obtain ⟨x8_0, x8_1, x8_2, x8_3, s8⟩ := b8.out.d4
    obtain ⟨x10_0, x10_1, s10⟩ := b10.out.d2
    obtain ⟨x11_0, x11_1, s11⟩ := b11.out.d2
    obtain ⟨x12_0, x12_1, s12⟩ := b12.out.d2
    have szb := HB32.out.size
    by_cases hs0 : sg = 0
    ·subst hs0
     go_wp2_with fail
     have hkeep := (Keep.refl W31)
     have hbel := HB32.out
     refine bodyPost_ret (v := .bool true) (by simp [results, Tryz.results7, go_sem]) rfl ⟨rfl, hbel⟩
    ·have hz0 : z ≠ 0 := by intro h; apply hs0; rw [← QS.out, h]; rfl
     have hs1 : (sg == 0) = false := by simpa using hs0
     clear hs0
     have HZ0 := Lib.hid hz0
     clear hz0
     go_upto_region 12 with (fail)
     refine AS.region_facts (lowestFL x z W31) (JFst W31 27) [[], [], [61, 62], [], [], [64, 65], [63, 66], [67], [60], [60], [], [68, 14], [69]] [11] [[], [68, 14]] [0, 0, 1, 0, 0, 1, 1, 1, 1, 1, 0, 1, 1] [14] (fun u => by simp only [lowestFL, AS.temps, List.map_cons, List.map_nil, fillL, List.setIfInBounds_toArray, List.set_cons_zero, List.set_cons_succ]; rfl) (by kernel_rfl) (by kernel_rfl) (JFst.st W31 27) (below_drew (Below.refl _ _)) ?_ ?_
     ·refine AS.sc rfl rfl rfl ?_ ?_
      ·intro k_ u w_ hk hJ hF K hK
       clear hF
       obtain rfl : k_ = 0 := Nat.le_zero.1 hk
       have hJ0 : Below W31.heap.size W31 w_ := hJ
       obtain ⟨y0, y1⟩ := ((b10.out).up hJ0).c2
       go_simp
       exact hK.out _ _ (Below.refl _ _) ((HP.out).kept (Keep.ofBelow hJ0)) trivial
      refine AS.sc rfl rfl rfl ?_ ?_
      ·intro k_ u w_ hk hJ hF K hK
       clear hF
       obtain rfl : k_ = 0 := Nat.le_zero.1 hk
       have hJ0 : Below W31.heap.size W31 w_ := hJ
       obtain ⟨y0, y1⟩ := ((b12.out).up hJ0).c2
       go_simp
       exact hK.out _ _ (Below.refl _ _) ((HK.out).kept (Keep.ofBelow hJ0)) trivial
      refine AS.sc rfl rfl rfl ?_ ?_
      ·intro k_ u w_ hk hJ hF K hK
       have h61 : PInt (x.num) 224 (u 61) w_ := AS.facts_get hF 61 (by simp)
       have h62 : PInt (z) 223 (u 62) w_ := AS.facts_get hF 62 (by simp)
       clear hF
       go_simp
       refine (mul_fact h61 h62 (by decide) (by decide)).mono ?_
       rintro e w' ⟨v, rfl, hv, hb⟩
       exact hK.out _ _ hb (hv) trivial
      refine AS.sc rfl rfl rfl ?_ ?_
      ·intro k_ u w_ hk hJ hF K hK
       clear hF
       obtain rfl : k_ = 0 := Nat.le_zero.1 hk
       have hJ0 : Below W31.heap.size W31 w_ := hJ
       obtain ⟨y0, y1⟩ := ((b11.out).up hJ0).c2
       go_simp
       exact hK.out _ _ (Below.refl _ _) ((HQ.out).kept (Keep.ofBelow hJ0)) trivial
      refine AS.sc rfl rfl rfl ?_ ?_
      ·intro k_ u w_ hk hJ hF K hK
       clear hF
       obtain rfl : k_ = 0 := Nat.le_zero.1 hk
       have hJ0 : Below W31.heap.size W31 w_ := hJ
       obtain ⟨y0, y1⟩ := ((b12.out).up hJ0).c2
       go_simp
       exact hK.out _ _ (Below.refl _ _) ((HK.out).kept (Keep.ofBelow hJ0)) trivial
      refine AS.sc rfl rfl rfl ?_ ?_
      ·intro k_ u w_ hk hJ hF K hK
       have h64 : PInt ((x.den : Int)) 224 (u 64) w_ := AS.facts_get hF 64 (by simp)
       have h65 : PInt (z) 223 (u 65) w_ := AS.facts_get hF 65 (by simp)
       clear hF
       go_simp
       refine (mul_fact h64 h65 (by decide) (by decide)).mono ?_
       rintro e w' ⟨v, rfl, hv, hb⟩
       exact hK.out _ _ hb (hv) trivial
      refine AS.sc rfl rfl rfl ?_ ?_
      ·intro k_ u w_ hk hJ hF K hK
       have h63 : PInt (x.num * z) 447 (u 63) w_ := AS.facts_get hF 63 (by simp)
       have h66 : PInt ((x.den : Int) * z) 447 (u 66) w_ := AS.facts_get hF 66 (by simp)
       clear hF
       go_simp
       refine (new_ok (n := 447) (m := 447) h63 h66 (by decide) (mul_ne (den_ne x) HZ0.out)).mono ?_
       rintro e w' ⟨v, rfl, ⟨v0, e0, hv⟩, hb⟩
       exact hK.out _ _ hb (⟨v0, e0, by rw [common HZ0.out] at hv; exact hv⟩) trivial
      refine AS.sc rfl rfl rfl ?_ ?_
      ·intro k_ u w_ hk hJ hF K hK
       have h67 : RatOk x 448 (u 67) w_ := AS.facts_get hF 67 (by simp)
       clear hF
       go_simp
       exact hK.out _ _ (Below.refl _ _) (h67) trivial
      refine AS.sc rfl rfl rfl ?_ ?_
      ·intro k_ u w_ hk hJ hF K hK
       have h60 : RatOk x 448 (u 60) w_ := AS.facts_get hF 60 (by simp)
       clear hF
       obtain ⟨v0, e0, hv0⟩ := h60
       simp only [e0] at hK ⊢
       go_simp
       exact hK.out _ _ (Below.refl _ _) (hv0) trivial
      refine AS.sc rfl rfl rfl ?_ ?_
      ·intro k_ u w_ hk hJ hF K hK
       have h60 : RatOk x 448 (u 60) w_ := AS.facts_get hF 60 (by simp)
       clear hF
       obtain ⟨v0, e0, hv0⟩ := h60
       simp only [e0] at hK ⊢
       go_simp
       exact hK.out _ _ (Below.refl _ _) (rfl) trivial
      refine AS.sc rfl rfl rfl ?_ ?_
      ·intro k_ u w_ hk hJ hF K hK
       clear hF
       obtain rfl : k_ = 0 := Nat.le_zero.1 hk
       have hJ0 : Below W31.heap.size W31 w_ := hJ
       go_simp
       exact hK.out _ _ (below_alloc_new _) (IsBox4.new _ hJ0.size) ⟨rfl, by simp⟩
      refine AS.ss rfl rfl ?_ ?_
      ·intro u w_ hJ hAp hF K hK
       have h68 : PRat (x) 448 (u 68) w_ := AS.facts_get hF 68 (by simp)
       have h14 : IsBox4 27 W31.heap.size (u 14) w_ := AS.facts_get hF 14 (by simp)
       clear hF
       obtain ⟨g, x_, y_, z_, u_, eg, hgB, bx⟩ := h14
       obtain ⟨k1, A1, l1, c1, k2, A2, l2, c2, e_⟩ := h68.open
       have y0 := bx.cell 0
       have y1 := bx.cell 1
       have y2 := bx.cell 2
       have y3 := bx.cell 3
       have z0 := bx.frozen 0
       have z1 := bx.frozen 1
       have z2 := bx.frozen 2
       have z3 := bx.frozen 3
       simp only [List.getElem?_cons_zero, List.getElem?_cons_succ] at y0 y1 y2 y3
       have hbel : Below W31.heap.size W31 w_ := hJ
       simp only [e_, eg] at hK ⊢
       go_simp
       exact hK.out undef _ ⟨(Below.setCell (p := ⟨g, 3, none⟩) (Below.setCell (p := ⟨g, 2, none⟩) (Below.set2 (g := g) hbel hgB (.bool k1) (.slice A1 l1 c1)) hgB (.bool k2)) hgB (.slice A2 l2 c2)), g, [.bool k1, .slice A1 l1 c1, .bool k2, .slice A2 l2 c2], by simp [e_, eg], hgB, (Bx.set4 bx (Leaf.bool k1) (Leaf.slice A1 l1 c1) (Leaf.bool k2) (Leaf.slice A2 l2 c2))⟩ (Keep.set4 (Keep.refl w_) bx (Leaf.bool k1) (Leaf.slice A1 l1 c1) (Leaf.bool k2) (Leaf.slice A2 l2 c2))
      refine AS.sc rfl rfl rfl ?_ ?_
      ·intro k_ u w_ hk hJ hF K hK
       have h69 : u 69 = .int .i64 0 := AS.facts_get hF 69 (by simp)
       clear hF
       simp only [h69] at hK ⊢
       clear h69
       go_simp
       exact hK.out _ _ (Below.refl _ _) (rfl) trivial
      exact AS.StepsOk.nil
     ·intro u W33 hJ9 hF
      have h68 : PRat (x) 448 (u 68) W33 := AS.facts_get hF 68 (by simp [lowestFL, AS.temps])
      have h15 : u 15 = .int .i64 0 := AS.facts_get hF 15 (by simp [lowestFL, AS.temps])
      clear hF
      obtain ⟨hbel, g, vs, hvs, hgB, bx⟩ := hJ9
      obtain ⟨k1, A1, l1, c1, k2, A2, l2, c2, ea⟩ := h68.open
      rw [ea] at h68
      have e7 : u 14 = .pointer (some ⟨g, 0, none⟩) := (List.cons.inj (List.cons.inj hvs).2).1
      obtain rfl : vs = [.bool k1, .slice A1 l1 c1, .bool k2, .slice A2 l2 c2] := by
       have e1 := (List.cons.inj hvs).1
       rw [show u 68 = _ from ea] at e1
       have e2 := congrArg Array.toList (Value.agg.inj e1)
       simpa using e2.symm
      clear hvs
      have HY := Lib.hid h68
      have b14 := Lib.hid bx
      clear h68 bx
      rw [show u 14 = _ from e7, show u 15 = _ from h15]
      clear e7 h15
      replace b5 := hup b5 hbel
      replace b6 := hup b6 hbel
      replace b7 := hup b7 hbel
      replace b8 := hup b8 hbel
      replace b10 := hup b10 hbel
      replace b11 := hup b11 hbel
      replace b12 := hup b12 hbel
      replace HX := Lib.hid (HX.out.kept (Keep.ofBelow hbel))
      replace HP := Lib.hid (HP.out.kept (Keep.ofBelow hbel))
      replace HQ := Lib.hid (HQ.out.kept (Keep.ofBelow hbel))
      replace HK := Lib.hid (HK.out.kept (Keep.ofBelow hbel))
      replace HG := Lib.hid (HG.out.kept (Keep.ofBelow hbel))
      have nbel := below_then HB32.out hbel HB32.out.size
      have HB34 := Lib.hid nbel
      clear nbel HB32 hbel x5_0 x5_1 x5_2 x5_3 x6_0 x6_1 x6_2 x6_3 x7_0 x7_1 x7_2 x7_3 x8_0 x8_1 x8_2 x8_3 x10_0 x10_1 x11_0 x11_1 x12_0 x12_1 szb s5 s6 s7 s8 s10 s11 s12
      obtain ⟨x5_0, x5_1, x5_2, x5_3, s5⟩ := b5.out.d4
      obtain ⟨x6_0, x6_1, x6_2, x6_3, s6⟩ := b6.out.d4
      obtain ⟨x7_0, x7_1, x7_2, x7_3, s7⟩ := b7.out.d4
      obtain ⟨x8_0, x8_1, x8_2, x8_3, s8⟩ := b8.out.d4
      obtain ⟨x10_0, x10_1, s10⟩ := b10.out.d2
      obtain ⟨x11_0, x11_1, s11⟩ := b11.out.d2
      obtain ⟨x12_0, x12_1, s12⟩ := b12.out.d2
      obtain ⟨x14_0, x14_1, x14_2, x14_3, s14⟩ := b14.out.d4
      have szb := HB34.out.size
      go_wp2_with fail
      refine (equal_fact (n := 500) (HX.out.more (by decide)) (HY.out.more (by decide)) (by decide) (by decide) (tab_up HT.out HB34.out)).mono ?_
      rintro e W35 ⟨rfl, hb⟩
      replace b5 := hup b5 hb
      replace b6 := hup b6 hb
      replace b7 := hup b7 hb
      replace b8 := hup b8 hb
      replace b10 := hup b10 hb
      replace b11 := hup b11 hb
      replace b12 := hup b12 hb
      replace b14 := hup b14 hb
      replace HX := Lib.hid (HX.out.kept (Keep.ofBelow hb))
      replace HP := Lib.hid (HP.out.kept (Keep.ofBelow hb))
      replace HQ := Lib.hid (HQ.out.kept (Keep.ofBelow hb))
      replace HK := Lib.hid (HK.out.kept (Keep.ofBelow hb))
      replace HG := Lib.hid (HG.out.kept (Keep.ofBelow hb))
      replace HY := Lib.hid (HY.out.kept (Keep.ofBelow hb))
      have nbel := below_then HB34.out hb HB34.out.size
      have HB36 := Lib.hid nbel
      clear nbel HB34 hb x5_0 x5_1 x5_2 x5_3 x6_0 x6_1 x6_2 x6_3 x7_0 x7_1 x7_2 x7_3 x8_0 x8_1 x8_2 x8_3 x10_0 x10_1 x11_0 x11_1 x12_0 x12_1 x14_0 x14_1 x14_2 x14_3 szb s5 s6 s7 s8 s10 s11 s12 s14
      obtain ⟨x5_0, x5_1, x5_2, x5_3, s5⟩ := b5.out.d4
      obtain ⟨x6_0, x6_1, x6_2, x6_3, s6⟩ := b6.out.d4
      obtain ⟨x7_0, x7_1, x7_2, x7_3, s7⟩ := b7.out.d4
      obtain ⟨x8_0, x8_1, x8_2, x8_3, s8⟩ := b8.out.d4
      obtain ⟨x10_0, x10_1, s10⟩ := b10.out.d2
      obtain ⟨x11_0, x11_1, s11⟩ := b11.out.d2
      obtain ⟨x12_0, x12_1, s12⟩ := b12.out.d2
      obtain ⟨x14_0, x14_1, x14_2, x14_3, s14⟩ := b14.out.d4
      have szb := HB36.out.size
      go_wp2_with fail
      have hkeep := (Keep.refl W35)
      have hbel := HB36.out
      refine bodyPost_ret (v := .bool true) (by simp [results, Tryz.results7, go_sem]) rfl ⟨rfl, hbel⟩
   ·have hne : (er == 0) = false := by simpa using he
    have hne2 : (er != 0) = true := by simpa using he
    clear he
    go_wp2_with fail
    have hkeep := (Keep.refl W29)
    have hbel := HB30.out
    refine bodyPost_ret (v := .bool true) (by simp [results, Tryz.results7, go_sem]) rfl ⟨rfl, hbel⟩
end Go.Proofs.YtgihmikeapbpkaaGreatDoor
