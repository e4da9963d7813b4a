/- Contracts and the law of RationalProducts, part 1: what was proved of each, callees first. -/
import Derived.Test.YtgihmikeapbpkaaGreatDoorK10
namespace Go.Proofs.YtgihmikeapbpkaaGreatDoor
open Go.RowKit
theorem zR_mul (n m : Bool) {L M R : List Nat} (h : val4 R = val4 L * val4 M) (h0 : R.length = 0 → val4 R = 0) : zR ((n != m) && decide (0 < R.length)) R = zR n L * zR m M := by
 have hc : ((val4 R : Nat) : Int) = (val4 L : Int) * (val4 M : Int) := by rw [h]; simp
 unfold zR
 generalize (val4 L : Int) = x at *
 generalize (val4 M : Int) = y at *
 rcases Nat.eq_zero_or_pos R.length with h1 | h1
 ·have h2 := h0 h1
  rw [h2] at hc ⊢
  have e : (decide (0 < R.length)) = false := by rw [decide_eq_false_iff_not]; omega
  rw [e, Bool.and_false]
  cases n <;> cases m <;> simp <;> grind
 ·have e : (decide (0 < R.length)) = true := by rw [decide_eq_true_iff]; omega
  rw [e, Bool.and_true, hc]
  cases n <;> cases m <;> simp <;> grind
set_option maxRecDepth 20000 in
set_option maxHeartbeats 3200000 in
theorem rmulI_any (n m : Bool) (A A' : Option Addr) (c c' : Nat) (L M : List Nat) (w : World) (hl : L.length ≤ 500000) (hml : M.length ≤ 500000)
  (hL : RefR w w.heap.size n A c L) (hM : RefR w w.heap.size m A' c' M) :
  Calls Tryz.prog 70 #[.agg #[.bool n, .slice A L.length c], .agg #[.bool m, .slice A' M.length c']] w fun e w' => ∃ k A c R, e = .returned (.agg #[.bool k, .slice A R.length c]) ∧
   RefR w' w'.heap.size k A c R ∧ zR k R = zR n L * zR m M ∧ R.length ≤ L.length + M.length ∧ Below w.heap.size w w' := by
 have hM2 := fun W h1 h2 => rmul2 A A' c c' L M W hl hml hL.lim hM.lim h1 h2
 have HM2 := Lib.hid hM2
 clear hM2
 generalize hl' : L.length = l at *
 generalize hm' : M.length = l2 at *
 have HLL := Lib.hid hl'
 have HML := Lib.hid hm'
 clear hl' hm'
 go_enter Tryz.func70, Tryz.ntmps70
 go_wp2
 have hne1 : ¬ w.heap.size = w.heap.size + 1 + 1 := by omega
 have hne2 : ¬ w.heap.size + 1 + 1 = w.heap.size := by omega
 go_region_held3 (fun w' => w'.cell? ⟨w.heap.size, 0, none⟩ = some (.bool n) ∧ w'.cell? ⟨w.heap.size, 1, none⟩ = some (.slice A l c) ∧
   w'.cell? ⟨w.heap.size + 1, 0, none⟩ = some (.bool m) ∧ w'.cell? ⟨w.heap.size + 1, 1, none⟩ = some (.slice A' l2 c')) (go_keep)
  (first
   | (go_at_call 118; refine (HM2.out _ (hL.row.up (below_drew (below_a3 _ _ _ _))) (hM.row.up (below_drew (below_a3 _ _ _ _)))).mono ?_; rintro e w1 ⟨g, c1, R, rfl, hr1, hlim1, htop1, hv1, hl1, hb1, _⟩; have HB1 := Lib.hid (three (below_undrew hb1)).2.2.2.2.2.2.2.2.2; have X := three (below_undrew hb1); have hq1 := X.1; have hq2 := X.2.1; have hq3 := X.2.2.1; have hq4 := X.2.2.2.1; have hq5 := X.2.2.2.2.1; have hq6 := X.2.2.2.2.2.1; have hq7 := X.2.2.2.2.2.2.1; have hq8 := X.2.2.2.2.2.2.2.1; have hq9 := X.2.2.2.2.2.2.2.2.1; clear X hb1)
   | (go_at_call 109; refine (rsigned_trim _ _ _ R _ hl1 htop1 hr1).mono ?_; rintro e w2 ⟨rfl, hb2⟩; have HB2 := Lib.hid (below_then HB1.out hb2 hq9); have HR2 := Lib.hid (hr1.below hb2); have hs2 := hb2.size; clear hq1 hq2 hq3 hq4 hq5 hq6 hq7 hq8 hr1 hb2; have X := three' HB2.out; have hq1 := X.1; have hq2 := X.2.1; have hq3 := X.2.2.1; have hq4 := X.2.2.2.1; have hq5 := X.2.2.2.2.1; have hq6 := X.2.2.2.2.2.1; have hq7 := X.2.2.2.2.2.2.1; have hq8 := X.2.2.2.2.2.2.2.1; clear X))
 all_goals
  go_wp2
  have hbw : Below w.heap.size w w2 := (below_a3 w _ _ _).trans (Below.less HB2.out (by omega))
  refine bodyPost_ret (v := .agg #[.bool (!(n == m) && decide (0 < R.length)), .slice (some ⟨g, 0, none⟩) R.length c1]) (by simp [results, Tryz.results70, go_sem, hq5, hq6]) rfl
   ⟨_, _, _, R, rfl, ?_, zR_mul n m hv1 val4_nil, hl1, (hbw.setCell (by simp; omega) _).setCell (by simp; omega) _⟩
  rw [setCell_size, setCell_size]
  refine ⟨(HR2.out.more hs2).box3 HB2.out (fun _ => by simp) (fun _ => by simp) _ _, hlim1, htop1, fun hk hR => ?_⟩
  rw [hR] at hk
  simp at hk
theorem div_terms (x y : Rat) : Rat.divInt (x.num * y.den) (x.den * y.num) = x / y := by
 rw [Rat.div_def, Rat.inv_def, ← Rat.divInt_mul_divInt, Rat.num_divInt_den]
open AS (Keep NoInt)
section
variable {t : TypeId} {w w' : World} {g : Nat} {vs : List Value}
end
theorem PRat.more {x : Rat} {n m : Nat} {v : Value} {w : World} (h : PRat x n v w) (hm : n ≤ m) : PRat x m v w := by
 obtain ⟨p, q, k, A, l, c, k', A', l', c', rfl, h1, h2, h3⟩ := h
 exact ⟨p, q, k, A, l, c, k', A', l', c', rfl, h1.more hm, h2.more hm, h3⟩
theorem RRat.more {x : Rat} {n m : Nat} {v : Value} {w : World} (h : RRat x n v w) (hm : n ≤ m) : RRat x m v w := by
 obtain ⟨p, q, k, A, l, c, k', A', l', c', rfl, h1, h2, h3⟩ := h
 exact ⟨p, q, k, A, l, c, k', A', l', c', rfl, h1.more hm, h2.more hm, h3⟩
def AS.Fact.rrat (x : Rat) (n : Nat) : AS.Fact := ⟨RRat x n, fun _ _ _ hk h => h.kept hk⟩
open Go.RowKit
open AS (Keep NoInt)
theorem rmul_fact {x y : Int} {n m : Nat} {a b : Value} {w : World} (h1 : PRef x n a w) (h2 : PRef y m b w) (hn : n ≤ 500000) (hm : m ≤ 500000) :
  Calls Tryz.prog 70 #[a, b] w fun e w' => ∃ v, e = .returned v ∧ PRef (x * y) (n + m) v w' ∧ Below w.heap.size w w' := by
 obtain ⟨k, A, c, L, rfl, i1, rfl, l1⟩ := h1
 obtain ⟨k', A', c', M, rfl, i2, rfl, l2⟩ := h2
 refine (rmulI_any k k' A A' c c' L M w (by omega) (by omega) i1 i2).mono ?_
 rintro e w' ⟨q, B, d, R, rfl, hi, hz, hl, hb⟩
 exact ⟨_, rfl, ⟨q, B, d, R, rfl, hi, hz, by omega⟩, hb⟩
theorem PRef.zero (n : Nat) (w : World) : PRef 0 n (.agg #[.bool false, .slice none 0 0]) w := ⟨false, none, 0, [], rfl, RefR.zero _ _ _ _, rfl, Nat.zero_le _⟩
theorem PRat.zero (n : Nat) (w : World) : PRat 0 n (.agg #[.bool false, .slice none 0 0, .bool false, .slice none 0 0]) w := ⟨0, 0, _, _, _, _, _, _, _, _, rfl, PInt.zero n w, PInt.zero n w, .inr ⟨rfl, rfl, rfl⟩⟩
theorem RRat.zero (n : Nat) (w : World) : RRat 0 n (.agg #[.bool false, .slice none 0 0, .bool false, .slice none 0 0]) w := ⟨0, 0, _, _, _, _, _, _, _, _, rfl, PRef.zero n w, PRef.zero n w, .inr ⟨rfl, rfl, rfl⟩⟩
set_option maxHeartbeats 3200000
set_option maxRecDepth 20000
theorem new_zero {p : Int} {n m : Nat} {k : Bool} {A : Option Addr} {l c : Nat} {k' : Bool} {A' : Option Addr} {l' c' : Nat} {w : World} (h1 : PInt p n (.agg #[.bool k, .slice A l c]) w) (h2 : PInt 0 m (.agg #[.bool k', .slice A' l' c']) w) :
  Calls Tryz.prog 38 #[.agg #[.bool k, .slice A l c], .agg #[.bool k', .slice A' l' c']] w fun e w' => e = .returned (.tuple #[.agg #[.bool false, .slice none 0 0, .bool false, .slice none 0 0], .int .i64 10]) ∧ Below w.heap.size w w' := by
 have H1 := Lib.hid h1
 have H2 := Lib.hid h2
 clear h1 h2
 go_enter Tryz.func38, Tryz.ntmps38
 go_upto_region 1 with (fail)
 change Code.wp Tryz.prog _ _ _ (((w.alloc (.cells #[.bool k, .slice A l c] 25)).alloc (.cells #[.bool k', .slice A' l' c'] 25)).alloc (.cells #[.bool false, .slice none 0 0, .bool false, .slice none 0 0] 27))
 obtain ⟨nb2, nb3, nb4, na⟩ := new3 w 25 [.bool k, .slice A l c] 25 [.bool k', .slice A' l' c'] 27 [.bool false, .slice none 0 0, .bool false, .slice none 0 0] lf2 lf2 lf4
 have nkeep := Keep.ofBelow na
 have nbel := na
 generalize ((w.alloc (.cells #[.bool k, .slice A l c] 25)).alloc (.cells #[.bool k', .slice A' l' c'] 25)).alloc (.cells #[.bool false, .slice none 0 0, .bool false, .slice none 0 0] 27) = W1 at *
 clear na
 have b2 := Lib.hid nb2
 have b3 := Lib.hid nb3
 have b4 := Lib.hid nb4
 clear nb2 nb3 nb4
 replace H1 := Lib.hid (H1.out.kept nkeep)
 replace H2 := Lib.hid (H2.out.kept nkeep)
 clear nkeep
 have HB2 := Lib.hid nbel
 clear nbel
 obtain ⟨x20, x21, s2⟩ := b2.out.d2
 obtain ⟨x30, x31, s3⟩ := b3.out.d2
 obtain ⟨x40, x41, x42, x43, z40, z41, z42, z43, s4⟩ := b4.out.e4
 have szb := HB2.out.size
 go_wp2_with fail
 refine (sign_is H2.out (c := 0) (by decide)).mono ?_
 rintro e W3 ⟨rfl, hb⟩
 replace b2 := hup b2 hb
 replace b3 := hup b3 hb
 replace b4 := hup b4 hb
 replace H1 := Lib.hid (H1.out.kept (Keep.ofBelow hb))
 replace H2 := Lib.hid (H2.out.kept (Keep.ofBelow hb))
 have nbel := below_then HB2.out hb HB2.out.size
 have HB4 := Lib.hid nbel
 clear nbel HB2 hb x20 x21 x30 x31 x40 x41 x42 x43 z40 z41 z42 z43 szb s2 s3 s4
 obtain ⟨x20, x21, s2⟩ := b2.out.d2
 obtain ⟨x30, x31, s3⟩ := b3.out.d2
 obtain ⟨x40, x41, x42, x43, z40, z41, z42, z43, s4⟩ := b4.out.e4
 have szb := HB4.out.size
 go_wp2_with fail
 have hkeep := (Keep.set4 (Keep.refl W3) b4.out (Leaf.bool false) (Leaf.slice none 0 0) (Leaf.bool false) (Leaf.slice none 0 0))
 have hbel := (Below.set4 (g := w.heap.size + 1 + 1) HB4.out (by first | omega | (simp; done) | (simp; omega)) (.bool false) (.slice none 0 0) (.bool false) (.slice none 0 0))
 refine bodyPost_ret (v := .tuple #[.agg #[.bool false, .slice none 0 0, .bool false, .slice none 0 0], .int .i64 10]) (by simp [results, Tryz.results38, go_sem, x40, x41, x42, x43]) rfl ⟨rfl, hbel⟩
set_option maxHeartbeats 3200000
set_option maxRecDepth 20000
def AS.Fact.rrok (x : Rat) (n : Nat) : AS.Fact := ⟨RRatOk x n, fun _ _ _ hk ⟨v0, e, h⟩ => ⟨v0, e, h.kept hk⟩⟩
theorem rnew_zero {p : Int} {n m : Nat} {k : Bool} {A : Option Addr} {l c : Nat} {k' : Bool} {A' : Option Addr} {l' c' : Nat} {w : World} (h1 : PRef p n (.agg #[.bool k, .slice A l c]) w) (h2 : PRef 0 m (.agg #[.bool k', .slice A' l' c']) w) :
  Calls Tryz.prog 74 #[.agg #[.bool k, .slice A l c], .agg #[.bool k', .slice A' l' c']] w fun e w' => e = .returned (.tuple #[.agg #[.bool false, .slice none 0 0, .bool false, .slice none 0 0], .int .i64 10]) ∧ Below w.heap.size w w' := by
 have H1 := Lib.hid h1
 have H2 := Lib.hid h2
 clear h1 h2
 go_enter Tryz.func74, Tryz.ntmps74
 go_upto_region 1 with (fail)
 change Code.wp Tryz.prog _ _ _ (((w.alloc (.cells #[.bool k, .slice A l c] 33)).alloc (.cells #[.bool k', .slice A' l' c'] 33)).alloc (.cells #[.bool false, .slice none 0 0, .bool false, .slice none 0 0] 35))
 obtain ⟨nb2, nb3, nb4, na⟩ := new3 w 33 [.bool k, .slice A l c] 33 [.bool k', .slice A' l' c'] 35 [.bool false, .slice none 0 0, .bool false, .slice none 0 0] lf2 lf2 lf4
 have nkeep := Keep.ofBelow na
 have nbel := na
 generalize ((w.alloc (.cells #[.bool k, .slice A l c] 33)).alloc (.cells #[.bool k', .slice A' l' c'] 33)).alloc (.cells #[.bool false, .slice none 0 0, .bool false, .slice none 0 0] 35) = W1 at *
 clear na
 have b2 := Lib.hid nb2
 have b3 := Lib.hid nb3
 have b4 := Lib.hid nb4
 clear nb2 nb3 nb4
 replace H1 := Lib.hid (H1.out.kept nkeep)
 replace H2 := Lib.hid (H2.out.kept nkeep)
 clear nkeep
 have HB2 := Lib.hid nbel
 clear nbel
 obtain ⟨x2_0, x2_1, z2_0, z2_1, s2⟩ := b2.out.e2
 obtain ⟨x3_0, x3_1, z3_0, z3_1, s3⟩ := b3.out.e2
 obtain ⟨x4_0, x4_1, x4_2, x4_3, z4_0, z4_1, z4_2, z4_3, s4⟩ := b4.out.e4
 have szb := HB2.out.size
 go_wp2_with fail
 refine (rsign_is H2.out (c := 0) (by decide)).mono ?_
 rintro e W3 ⟨rfl, hb⟩
 replace b2 := hup b2 hb
 replace b3 := hup b3 hb
 replace b4 := hup b4 hb
 replace H1 := Lib.hid (H1.out.kept (Keep.ofBelow hb))
 replace H2 := Lib.hid (H2.out.kept (Keep.ofBelow hb))
 have nbel := below_then HB2.out hb HB2.out.size
 have HB4 := Lib.hid nbel
 clear nbel HB2 hb x2_0 x2_1 z2_0 z2_1 x3_0 x3_1 z3_0 z3_1 x4_0 x4_1 x4_2 x4_3 z4_0 z4_1 z4_2 z4_3 szb s2 s3 s4
 obtain ⟨x2_0, x2_1, z2_0, z2_1, s2⟩ := b2.out.e2
 obtain ⟨x3_0, x3_1, z3_0, z3_1, s3⟩ := b3.out.e2
 obtain ⟨x4_0, x4_1, x4_2, x4_3, z4_0, z4_1, z4_2, z4_3, s4⟩ := b4.out.e4
 have szb := HB4.out.size
 go_wp2_with fail
 have hkeep := (Keep.set4 (Keep.refl W3) b4.out (Leaf.bool false) (Leaf.slice none 0 0) (Leaf.bool false) (Leaf.slice none 0 0))
 have hbel := (Below.set4 (g := w.heap.size + 1 + 1) HB4.out (by first | omega | (simp; done) | (simp; omega)) (.bool false) (.slice none 0 0) (.bool false) (.slice none 0 0))
 refine bodyPost_ret (v := .tuple #[.agg #[.bool false, .slice none 0 0, .bool false, .slice none 0 0], .int .i64 10]) (by simp [results, Tryz.results74, go_sem, x4_0, x4_1, x4_2, x4_3]) rfl ⟨rfl, hbel⟩
theorem rnew_zero2 {p q : Int} {n m : Nat} {a b : Value} {w : World} (h1 : PRef p n a w) (h2 : PRef q m b w) (hq : q = 0) :
  Calls Tryz.prog 74 #[a, b] w fun e w' => e = .returned (.tuple #[.agg #[.bool false, .slice none 0 0, .bool false, .slice none 0 0], .int .i64 10]) ∧ Below w.heap.size w w' := by
 obtain ⟨k, A, l, c, rfl⟩ := h1.open
 obtain ⟨k', A', l', c', rfl⟩ := h2.open
 subst hq
 exact rnew_zero h1 h2
def sameFL (x : Rat) (n : Nat) : List (Nat × AS.Fact) := [(5, AS.Fact.rat (x) n), (6, AS.Fact.is (.string ⟨(ratText x).toArray⟩)), (7, AS.Fact.rrat (x) n), (8, AS.Fact.is (.string ⟨(ratText x).toArray⟩)), (9, AS.Fact.is (.bool true)), (4, AS.Fact.is (.bool true))]
set_option maxRecDepth 20000 in
set_option maxHeartbeats 3200000 in
theorem same_fact {x : Rat} {n : Nat} {v v2 : Value} {w : World} (h : PRat x n v w) (h2 : RRat x n v2 w) (hn5 : 5 ≤ n) (hn : n ≤ 10000) (ht : Tab w.heap.size w) :
  Calls Tryz.prog 18 #[v, v2] w fun e w' => e = .returned (.bool true) ∧ Below w.heap.size w w' := by
 obtain ⟨k, A, l, c, k', A', l', c', rfl⟩ := h.open
 obtain ⟨r, E, m, d, r', E', m', d', rfl⟩ := h2.open
 have H1 := Lib.hid h
 have H2 := Lib.hid h2
 have HT := Lib.hid ht
 clear h h2 ht
 go_enter Tryz.func18, Tryz.ntmps18
 go_upto_region 1 with (fail)
 change Code.wp Tryz.prog _ _ _ ((w.alloc (.cells #[.bool k, .slice A l c, .bool k', .slice A' l' c'] 27)).alloc (.cells #[.bool r, .slice E m d, .bool r', .slice E' m' d'] 35))
 obtain ⟨nb2, nb3, na⟩ := new2 w 27 [.bool k, .slice A l c, .bool k', .slice A' l' c'] 35 [.bool r, .slice E m d, .bool r', .slice E' m' d'] lf4 lf4
 have nkeep := Keep.ofBelow na
 have nbel := na
 generalize (w.alloc (.cells #[.bool k, .slice A l c, .bool k', .slice A' l' c'] 27)).alloc (.cells #[.bool r, .slice E m d, .bool r', .slice E' m' d'] 35) = W1 at *
 clear na
 have b2 := Lib.hid nb2
 have b3 := Lib.hid nb3
 clear nb2 nb3
 replace H1 := Lib.hid (H1.out.kept nkeep)
 replace H2 := Lib.hid (H2.out.kept nkeep)
 clear nkeep
 have HB2 := Lib.hid nbel
 clear nbel
 obtain ⟨x20, x21, x22, x23, s2⟩ := b2.out.d4
 obtain ⟨x30, x31, x32, x33, s3⟩ := b3.out.d4
 have szb := HB2.out.size
 have HTW := Lib.hid (tab_up HT.out HB2.out)
 refine AS.region_facts (sameFL x n) (JNo W1) [[], [5], [], [7], [6, 8], [9]] [] [[]] [0, 0, 0, 0, 0, 0] [] (fun u => by simp only [sameFL, AS.temps, List.map_cons, List.map_nil, fillL, List.setIfInBounds_toArray, List.set_cons_zero, List.set_cons_succ]; rfl) (by kernel_rfl) (by kernel_rfl) (JNo.st W1) (below_drew (Below.refl _ _)) ?_ ?_
 ·refine AS.sc rfl rfl rfl ?_ ?_
  ·intro k_ u w_ hk hJ hF K hK
   clear hF
   obtain rfl : k_ = 0 := Nat.le_zero.1 hk
   have hJ0 : Below W1.heap.size W1 w_ := hJ
   obtain ⟨y0, y1, y2, y3⟩ := ((b2.out).up hJ0).c4
   go_simp
   exact hK.out _ _ (Below.refl _ _) ((H1.out).kept (Keep.ofBelow hJ0)) trivial
  refine AS.sc rfl rfl rfl ?_ ?_
  ·intro k_ u w_ hk hJ hF K hK
   have h5 : PRat (x) n (u 5) w_ := AS.facts_get hF 5 (by simp)
   clear hF
   go_simp
   refine (ratText_fact h5 (by omega) hn (tab_up HTW.out hJ)).mono ?_
   rintro e w' ⟨rfl, hb⟩
   exact hK.out _ _ hb (rfl) trivial
  refine AS.sc rfl rfl rfl ?_ ?_
  ·intro k_ u w_ hk hJ hF K hK
   clear hF
   obtain rfl : k_ = 0 := Nat.le_zero.1 hk
   have hJ0 : Below W1.heap.size W1 w_ := hJ
   obtain ⟨y0, y1, y2, y3⟩ := ((b3.out).up hJ0).c4
   go_simp
   exact hK.out _ _ (Below.refl _ _) ((H2.out).kept (Keep.ofBelow hJ0)) trivial
  refine AS.sc rfl rfl rfl ?_ ?_
  ·intro k_ u w_ hk hJ hF K hK
   have h7 : RRat (x) n (u 7) w_ := AS.facts_get hF 7 (by simp)
   clear hF
   go_simp
   refine (rratText_fact h7 hn5 hn).mono ?_
   rintro e w' ⟨rfl, hb⟩
   exact hK.out _ _ hb (rfl) trivial
  refine AS.sc rfl rfl rfl ?_ ?_
  ·intro k_ u w_ hk hJ hF K hK
   have h6 : u 6 = .string ⟨(ratText x).toArray⟩ := AS.facts_get hF 6 (by simp)
   have h8 : u 8 = .string ⟨(ratText x).toArray⟩ := AS.facts_get hF 8 (by simp)
   clear hF
   simp only [h6, h8] at hK ⊢
   clear h6 h8
   go_simp
   exact hK.out _ _ (Below.refl _ _) (rfl) trivial
  refine AS.sc rfl rfl rfl ?_ ?_
  ·intro k_ u w_ hk hJ hF K hK
   have h9 : u 9 = .bool true := AS.facts_get hF 9 (by simp)
   clear hF
   simp only [h9] at hK ⊢
   clear h9
   go_simp
   exact hK.out _ _ (Below.refl _ _) (rfl) trivial
  exact AS.StepsOk.nil
 ·intro u W3 hJ9 hF
  have h4 : u 4 = .bool true := AS.facts_get hF 4 (by simp [sameFL, AS.temps])
  clear hF
  rw [show u 4 = _ from h4]
  clear h4
  replace b2 := hup b2 hJ9
  replace b3 := hup b3 hJ9
  replace H1 := Lib.hid (H1.out.kept (Keep.ofBelow hJ9))
  replace H2 := Lib.hid (H2.out.kept (Keep.ofBelow hJ9))
  have nbel := below_then HB2.out hJ9 HB2.out.size
  have HB4 := Lib.hid nbel
  clear nbel HB2 hJ9 x20 x21 x22 x23 x30 x31 x32 x33 szb s2 s3
  obtain ⟨x20, x21, x22, x23, s2⟩ := b2.out.d4
  obtain ⟨x30, x31, x32, x33, s3⟩ := b3.out.d4
  have szb := HB4.out.size
  go_wp2_with fail
  have hkeep := (Keep.refl W3)
  have hbel := HB4.out
  refine bodyPost_ret (v := .bool true) (by simp [results, Tryz.results18, go_sem]) rfl ⟨rfl, hbel⟩
def ratMulFL (x y : Rat) (n : Nat) : List (Nat × AS.Fact) := [(19, AS.Fact.int (x.num) n), (20, AS.Fact.int (y.num) n), (21, AS.Fact.int ((x.num) * (y.num)) (n + n)), (22, AS.Fact.int ((x.den : Int)) n), (23, AS.Fact.int ((y.den : Int)) n), (24, AS.Fact.int (((x.den : Int)) * ((y.den : Int))) (n + n)), (25, AS.Fact.pair (x.num * y.num) ((x.den : Int) * (y.den : Int)) (n + n)), (26, AS.Fact.rat (x * y) (n + n + 1))]
set_option maxRecDepth 20000 in
set_option maxHeartbeats 3200000 in
theorem ratMul_fact {x y : Rat} {n : Nat} {v v2 : Value} {w : World} (h : PRat x n v w) (h2 : PRat y n v2 w) (hn3 : 3 ≤ n) (hn : n ≤ 10000) :
  Calls Tryz.prog 30 #[v, v2] w fun e w' => ∃ v, e = .returned v ∧ PRat (x * y) (n + n + 1) v w' ∧ Below w.heap.size w w' := by
 obtain ⟨k, A, l, c, k', A', l', c', rfl⟩ := h.open
 obtain ⟨r, E, m, d, r', E', m', d', rfl⟩ := h2.open
 have H1 := Lib.hid h
 have H2 := Lib.hid h2
 clear h h2
 go_enter Tryz.func30, Tryz.ntmps30
 go_upto_region 1 with (fail)
 change Code.wp Tryz.prog _ _ _ (((w.alloc (.cells #[.bool k, .slice A l c, .bool k', .slice A' l' c'] 27)).alloc (.cells #[.bool r, .slice E m d, .bool r', .slice E' m' d'] 27)).alloc (.cells #[.bool false, .slice none 0 0, .bool false, .slice none 0 0] 27))
 obtain ⟨nb2, nb3, nb4, na⟩ := new3 w 27 [.bool k, .slice A l c, .bool k', .slice A' l' c'] 27 [.bool r, .slice E m d, .bool r', .slice E' m' d'] 27 [.bool false, .slice none 0 0, .bool false, .slice none 0 0] lf4 lf4 lf4
 have nkeep := Keep.ofBelow na
 have nbel := na
 generalize ((w.alloc (.cells #[.bool k, .slice A l c, .bool k', .slice A' l' c'] 27)).alloc (.cells #[.bool r, .slice E m d, .bool r', .slice E' m' d'] 27)).alloc (.cells #[.bool false, .slice none 0 0, .bool false, .slice none 0 0] 27) = W1 at *
 clear na
 have b2 := Lib.hid nb2
 have b3 := Lib.hid nb3
 have b4 := Lib.hid nb4
 clear nb2 nb3 nb4
 replace H1 := Lib.hid (H1.out.kept nkeep)
 replace H2 := Lib.hid (H2.out.kept nkeep)
 clear nkeep
 have HB2 := Lib.hid nbel
 clear nbel
 obtain ⟨x2_0, x2_1, x2_2, x2_3, s2⟩ := b2.out.d4
 obtain ⟨x3_0, x3_1, x3_2, x3_3, s3⟩ := b3.out.d4
 obtain ⟨x4_0, x4_1, x4_2, x4_3, s4⟩ := b4.out.d4
 have szb := HB2.out.size
 go_wp2_with fail
 refine (terms_fact H1.out hn3).mono ?_
 rintro e W3 ⟨k1, A1, l1, c1, j1, B1, o1, e1, rfl, ha_, hc_, hb⟩
 replace b2 := hup b2 hb
 replace b3 := hup b3 hb
 replace b4 := hup b4 hb
 replace H1 := Lib.hid (H1.out.kept (Keep.ofBelow hb))
 replace H2 := Lib.hid (H2.out.kept (Keep.ofBelow hb))
 have nbel := below_then HB2.out hb HB2.out.size
 have HB4 := Lib.hid nbel
 clear nbel HB2 hb x2_0 x2_1 x2_2 x2_3 x3_0 x3_1 x3_2 x3_3 x4_0 x4_1 x4_2 x4_3 szb s2 s3 s4
 obtain ⟨x2_0, x2_1, x2_2, x2_3, s2⟩ := b2.out.d4
 obtain ⟨x3_0, x3_1, x3_2, x3_3, s3⟩ := b3.out.d4
 obtain ⟨x4_0, x4_1, x4_2, x4_3, s4⟩ := b4.out.d4
 have szb := HB4.out.size
 have HA := Lib.hid ha_
 have HB := Lib.hid hc_
 clear ha_ hc_
 go_upto_region 2 with (fail)
 have q5 := b2.out.lt
 have q6 := b3.out.lt
 have q7 := b4.out.lt
 change Code.wp Tryz.prog _ _ _ ((W3.alloc (.cells #[.bool k1, .slice A1 l1 c1] 25)).alloc (.cells #[.bool j1, .slice B1 o1 e1] 25))
 obtain ⟨nb5, nb6, na⟩ := new2 W3 25 [.bool k1, .slice A1 l1 c1] 25 [.bool j1, .slice B1 o1 e1] lf2 lf2
 have nb2 := b2.out.up na
 have nb3 := b3.out.up na
 have nb4 := b4.out.up na
 have nkeep := Keep.ofBelow na
 have nbel := below_then HB4.out na HB4.out.size
 generalize (W3.alloc (.cells #[.bool k1, .slice A1 l1 c1] 25)).alloc (.cells #[.bool j1, .slice B1 o1 e1] 25) = W8 at *
 clear na x2_0 x2_1 x2_2 x2_3 x3_0 x3_1 x3_2 x3_3 x4_0 x4_1 x4_2 x4_3 szb s2 s3 s4 b2 b3 b4
 have b2 := Lib.hid nb2
 have b3 := Lib.hid nb3
 have b4 := Lib.hid nb4
 have b5 := Lib.hid nb5
 have b6 := Lib.hid nb6
 clear nb2 nb3 nb4 nb5 nb6
 replace H1 := Lib.hid (H1.out.kept nkeep)
 replace H2 := Lib.hid (H2.out.kept nkeep)
 replace HA := Lib.hid (HA.out.kept nkeep)
 replace HB := Lib.hid (HB.out.kept nkeep)
 clear nkeep
 have HB9 := Lib.hid nbel
 clear nbel HB4
 obtain ⟨x2_0, x2_1, x2_2, x2_3, s2⟩ := b2.out.d4
 obtain ⟨x3_0, x3_1, x3_2, x3_3, s3⟩ := b3.out.d4
 obtain ⟨x4_0, x4_1, x4_2, x4_3, s4⟩ := b4.out.d4
 obtain ⟨x5_0, x5_1, s5⟩ := b5.out.d2
 obtain ⟨x6_0, x6_1, s6⟩ := b6.out.d2
 have szb := HB9.out.size
 go_wp2_with fail
 refine (terms_fact H2.out hn3).mono ?_
 rintro e W10 ⟨k2, A2, l2, c2, j2, B2, o2, e2, rfl, ha_, hc_, hb⟩
 replace b2 := hup b2 hb
 replace b3 := hup b3 hb
 replace b4 := hup b4 hb
 replace b5 := hup b5 hb
 replace b6 := hup b6 hb
 replace H1 := Lib.hid (H1.out.kept (Keep.ofBelow hb))
 replace H2 := Lib.hid (H2.out.kept (Keep.ofBelow hb))
 replace HA := Lib.hid (HA.out.kept (Keep.ofBelow hb))
 replace HB := Lib.hid (HB.out.kept (Keep.ofBelow hb))
 have nbel := below_then HB9.out hb HB9.out.size
 have HB11 := Lib.hid nbel
 clear nbel HB9 hb x2_0 x2_1 x2_2 x2_3 x3_0 x3_1 x3_2 x3_3 x4_0 x4_1 x4_2 x4_3 x5_0 x5_1 x6_0 x6_1 szb s2 s3 s4 s5 s6
 obtain ⟨x2_0, x2_1, x2_2, x2_3, s2⟩ := b2.out.d4
 obtain ⟨x3_0, x3_1, x3_2, x3_3, s3⟩ := b3.out.d4
 obtain ⟨x4_0, x4_1, x4_2, x4_3, s4⟩ := b4.out.d4
 obtain ⟨x5_0, x5_1, s5⟩ := b5.out.d2
 obtain ⟨x6_0, x6_1, s6⟩ := b6.out.d2
 have szb := HB11.out.size
 have HC := Lib.hid ha_
 have HD := Lib.hid hc_
 clear ha_ hc_
 go_upto_region 3 with (fail)
 have q12 := b2.out.lt
 have q13 := b3.out.lt
 have q14 := b4.out.lt
 have q15 := b5.out.lt
 have q16 := b6.out.lt
 change Code.wp Tryz.prog _ _ _ ((W10.alloc (.cells #[.bool k2, .slice A2 l2 c2] 25)).alloc (.cells #[.bool j2, .slice B2 o2 e2] 25))
 obtain ⟨nb7, nb8, na⟩ := new2 W10 25 [.bool k2, .slice A2 l2 c2] 25 [.bool j2, .slice B2 o2 e2] lf2 lf2
 have nb2 := b2.out.up na
 have nb3 := b3.out.up na
 have nb4 := b4.out.up na
 have nb5 := b5.out.up na
 have nb6 := b6.out.up na
 have nkeep := Keep.ofBelow na
 have nbel := below_then HB11.out na HB11.out.size
 generalize (W10.alloc (.cells #[.bool k2, .slice A2 l2 c2] 25)).alloc (.cells #[.bool j2, .slice B2 o2 e2] 25) = W17 at *
 clear na x2_0 x2_1 x2_2 x2_3 x3_0 x3_1 x3_2 x3_3 x4_0 x4_1 x4_2 x4_3 x5_0 x5_1 x6_0 x6_1 szb s2 s3 s4 s5 s6 b2 b3 b4 b5 b6
 have b2 := Lib.hid nb2
 have b3 := Lib.hid nb3
 have b4 := Lib.hid nb4
 have b5 := Lib.hid nb5
 have b6 := Lib.hid nb6
 have b7 := Lib.hid nb7
 have b8 := Lib.hid nb8
 clear nb2 nb3 nb4 nb5 nb6 nb7 nb8
 replace H1 := Lib.hid (H1.out.kept nkeep)
 replace H2 := Lib.hid (H2.out.kept nkeep)
 replace HA := Lib.hid (HA.out.kept nkeep)
 replace HB := Lib.hid (HB.out.kept nkeep)
 replace HC := Lib.hid (HC.out.kept nkeep)
 replace HD := Lib.hid (HD.out.kept nkeep)
 clear nkeep
 have HB18 := Lib.hid nbel
 clear nbel HB11
 obtain ⟨x2_0, x2_1, x2_2, x2_3, s2⟩ := b2.out.d4
 obtain ⟨x3_0, x3_1, x3_2, x3_3, s3⟩ := b3.out.d4
 obtain ⟨x4_0, x4_1, x4_2, x4_3, s4⟩ := b4.out.d4
 obtain ⟨x5_0, x5_1, s5⟩ := b5.out.d2
 obtain ⟨x6_0, x6_1, s6⟩ := b6.out.d2
 obtain ⟨x7_0, x7_1, s7⟩ := b7.out.d2
 obtain ⟨x8_0, x8_1, s8⟩ := b8.out.d2
 have szb := HB18.out.size
 refine AS.region_facts (ratMulFL x y n) (JRes w W17 27 (w.heap.size + 1 + 1)) [[], [], [19, 20], [], [], [22, 23], [21, 24], [25], [26]] [8] [[], [26]] [0, 0, 1, 0, 0, 1, 1, 1, 1] [] (fun u => by simp only [ratMulFL, AS.temps, List.map_cons, List.map_nil, fillL, List.setIfInBounds_toArray, List.set_cons_zero, List.set_cons_succ]; rfl) (by kernel_rfl) (by kernel_rfl) (JRes.st w W17 27 (w.heap.size + 1 + 1)) (below_drew (Below.refl _ _)) ?_ ?_
 ·refine AS.sc rfl rfl rfl ?_ ?_
  ·intro k_ u w_ hk hJ hF K hK
   clear hF
   obtain rfl : k_ = 0 := Nat.le_zero.1 hk
   have hJ0 : Below W17.heap.size W17 w_ := hJ
   obtain ⟨y0, y1⟩ := ((b5.out).up hJ0).c2
   go_simp
   exact hK.out _ _ (Below.refl _ _) ((HA.out).kept (Keep.ofBelow hJ0)) trivial
  refine AS.sc rfl rfl rfl ?_ ?_
  ·intro k_ u w_ hk hJ hF K hK
   clear hF
   obtain rfl : k_ = 0 := Nat.le_zero.1 hk
   have hJ0 : Below W17.heap.size W17 w_ := hJ
   obtain ⟨y0, y1⟩ := ((b7.out).up hJ0).c2
   go_simp
   exact hK.out _ _ (Below.refl _ _) ((HC.out).kept (Keep.ofBelow hJ0)) trivial
  refine AS.sc rfl rfl rfl ?_ ?_
  ·intro k_ u w_ hk hJ hF K hK
   have h19 : PInt (x.num) n (u 19) w_ := AS.facts_get hF 19 (by simp)
   have h20 : PInt (y.num) n (u 20) w_ := AS.facts_get hF 20 (by simp)
   clear hF
   go_simp
   refine (mul_fact h19 h20 (by omega) (by omega)).mono ?_
   rintro e w' ⟨v, rfl, hv, hb⟩
   exact hK.out _ _ hb (hv) trivial
  refine AS.sc rfl rfl rfl ?_ ?_
  ·intro k_ u w_ hk hJ hF K hK
   clear hF
   obtain rfl : k_ = 0 := Nat.le_zero.1 hk
   have hJ0 : Below W17.heap.size W17 w_ := hJ
   obtain ⟨y0, y1⟩ := ((b6.out).up hJ0).c2
   go_simp
   exact hK.out _ _ (Below.refl _ _) ((HB.out).kept (Keep.ofBelow hJ0)) trivial
  refine AS.sc rfl rfl rfl ?_ ?_
  ·intro k_ u w_ hk hJ hF K hK
   clear hF
   obtain rfl : k_ = 0 := Nat.le_zero.1 hk
   have hJ0 : Below W17.heap.size W17 w_ := hJ
   obtain ⟨y0, y1⟩ := ((b8.out).up hJ0).c2
   go_simp
   exact hK.out _ _ (Below.refl _ _) ((HD.out).kept (Keep.ofBelow hJ0)) trivial
  refine AS.sc rfl rfl rfl ?_ ?_
  ·intro k_ u w_ hk hJ hF K hK
   have h22 : PInt ((x.den : Int)) n (u 22) w_ := AS.facts_get hF 22 (by simp)
   have h23 : PInt ((y.den : Int)) n (u 23) w_ := AS.facts_get hF 23 (by simp)
   clear hF
   go_simp
   refine (mul_fact h22 h23 (by omega) (by omega)).mono ?_
   rintro e w' ⟨v, rfl, hv, hb⟩
   exact hK.out _ _ hb (hv) trivial
  refine AS.sc rfl rfl rfl ?_ ?_
  ·intro k_ u w_ hk hJ hF K hK
   have h21 : PInt ((x.num) * (y.num)) (n + n) (u 21) w_ := AS.facts_get hF 21 (by simp)
   have h24 : PInt (((x.den : Int)) * ((y.den : Int))) (n + n) (u 24) w_ := AS.facts_get hF 24 (by simp)
   clear hF
   obtain ⟨ka, Aa, la, ca, ea⟩ := h21.open
   obtain ⟨kb, Ab, lb, cb, eb⟩ := h24.open
   rw [ea] at h21
   rw [eb] at h24
   simp only [ea, eb] at hK ⊢
   go_simp
   exact hK.out _ _ (Below.refl _ _) (⟨ka, Aa, la, ca, kb, Ab, lb, cb, rfl, h21.more (by omega), h24.more (by omega)⟩) trivial
  refine AS.sc rfl rfl rfl ?_ ?_
  ·intro k_ u w_ hk hJ hF K hK
   have h25 : Pair (x.num * y.num) ((x.den : Int) * (y.den : Int)) (n + n) (u 25) w_ := AS.facts_get hF 25 (by simp)
   clear hF
   go_simp
   refine (red_pair h25 (by omega) (mul_ne (den_ne x) (den_ne y))).mono ?_
   rintro e w' ⟨v, rfl, hv, hb⟩
   exact hK.out _ _ hb (by rw [mul_terms] at hv; exact hv) trivial
  refine AS.ss rfl rfl ?_ ?_
  ·intro u w_ hJ hAp hF K hK
   have h26 : PRat (x * y) (n + n + 1) (u 26) w_ := AS.facts_get hF 26 (by simp)
   clear hF
   obtain ⟨k1, A1, l1, c1, k2, A2, l2, c2, e_⟩ := h26.open
   have hJ0 : Below W17.heap.size W17 w_ := hJ
   have bx := (b4.out).up hJ0
   have hbel := below_then HB18.out hJ0 HB18.out.size
   have y0 := bx.cell 0
   have z0 := bx.frozen 0
   have y1 := bx.cell 1
   have z1 := bx.frozen 1
   have y2 := bx.cell 2
   have z2 := bx.frozen 2
   have y3 := bx.cell 3
   have z3 := bx.frozen 3
   simp only [List.getElem?_cons_zero, List.getElem?_cons_succ] at y0 y1 y2 y3
   simp only [e_] at hK ⊢
   go_simp
   exact hK.out undef _ ⟨⟨(Below.setCell (p := ⟨w.heap.size + 1 + 1, 3, none⟩) (Below.setCell (p := ⟨w.heap.size + 1 + 1, 2, none⟩) (Below.set2 (g := w.heap.size + 1 + 1) hbel (by first | omega | (simp; done) | (simp; omega)) (.bool k1) (.slice A1 l1 c1)) (by first | omega | (simp; done) | (simp; omega)) (.bool k2)) (by first | omega | (simp; done) | (simp; omega)) (.slice A2 l2 c2)), (by simp only [setCell_size]; first | exact hsz | exact Nat.le_trans HB18.out.size hJ0.size)⟩, [.bool k1, .slice A1 l1 c1, .bool k2, .slice A2 l2 c2], by simp [e_], (Bx.set4 bx (Leaf.bool k1) (Leaf.slice A1 l1 c1) (Leaf.bool k2) (Leaf.slice A2 l2 c2))⟩ (Keep.set4 (Keep.refl w_) bx (Leaf.bool k1) (Leaf.slice A1 l1 c1) (Leaf.bool k2) (Leaf.slice A2 l2 c2))
  exact AS.StepsOk.nil
 ·intro u W19 hJ9 hF
  have h26 : PRat (x * y) (n + n + 1) (u 26) W19 := AS.facts_get hF 26 (by simp [ratMulFL, AS.temps])
  clear hF
  obtain ⟨⟨hbel, -⟩, vs, hvs, hbx⟩ := hJ9
  obtain ⟨ka, Aa, la, ca, kb, Ab, lb, cb, ea⟩ := h26.open
  rw [ea] at h26
  obtain rfl : vs = [.bool ka, .slice Aa la ca, .bool kb, .slice Ab lb cb] := by
   have e1 := (List.cons.inj hvs).1
   rw [show u 26 = _ from ea] at e1
   have e2 := congrArg Array.toList (Value.agg.inj e1)
   simpa using e2.symm
  have y0 := hbx.cell 0
  have y1 := hbx.cell 1
  have y2 := hbx.cell 2
  have y3 := hbx.cell 3
  simp only [List.getElem?_cons_zero, List.getElem?_cons_succ] at y0 y1 y2 y3
  go_wp2_with fail
  refine bodyPost_ret (v := .agg #[.bool ka, .slice Aa la ca, .bool kb, .slice Ab lb cb]) (by simp [results, Tryz.results30, go_sem, y0, y1, y2, y3]) rfl ⟨_, rfl, h26, hbel⟩
def RatOk (x : Rat) (n : Nat) (v : Value) (w : World) : Prop := ∃ v0, v = .tuple #[v0, .int .i64 0] ∧ PRat x n v0 w
def AS.Fact.rok (x : Rat) (n : Nat) : AS.Fact := ⟨RatOk x n, fun _ _ _ hk ⟨v0, e, h⟩ => ⟨v0, e, h.kept hk⟩⟩
theorem new_ok {p q : Int} {n m : Nat} {a b : Value} {w : World} (h1 : PInt p n a w) (h2 : PInt q m b w) (hn : n + m ≤ 100000) (hq : q ≠ 0) :
  Calls Tryz.prog 38 #[a, b] w fun e w' => ∃ v, e = .returned v ∧ RatOk (Rat.divInt p q) (max n m + 1) v w' ∧ Below w.heap.size w w' := by
 obtain ⟨k, A, l, c, rfl⟩ := h1.open
 obtain ⟨k', A', l', c', rfl⟩ := h2.open
 refine (new_fact (h1.more (Nat.le_max_left n m)) (h2.more (Nat.le_max_right n m)) (by omega) hq).mono ?_
 rintro e w' ⟨v, rfl, hv, hb⟩
 exact ⟨_, rfl, ⟨v, rfl, hv⟩, hb⟩
theorem new_zero2 {p q : Int} {n m : Nat} {a b : Value} {w : World} (h1 : PInt p n a w) (h2 : PInt q m b w) (hq : q = 0) :
  Calls Tryz.prog 38 #[a, b] w fun e w' => e = .returned (.tuple #[.agg #[.bool false, .slice none 0 0, .bool false, .slice none 0 0], .int .i64 10]) ∧ Below w.heap.size w w' := by
 obtain ⟨k, A, l, c, rfl⟩ := h1.open
 obtain ⟨k', A', l', c', rfl⟩ := h2.open
 subst hq
 exact new_zero h1 h2
def ratDivFL (x y : Rat) (n : Nat) : List (Nat × AS.Fact) := [(20, AS.Fact.int (x.num) n), (21, AS.Fact.int ((y.den : Int)) n), (22, AS.Fact.int ((x.num) * ((y.den : Int))) (n + n)), (23, AS.Fact.int ((x.den : Int)) n), (24, AS.Fact.int (y.num) n), (25, AS.Fact.int (((x.den : Int)) * (y.num)) (n + n)), (26, AS.Fact.rok (x / y) (n + n + 1)), (27, AS.Fact.rat (x / y) (n + n + 1)), (28, AS.Fact.is (.int .i64 0)), (5, AS.Fact.is (.int .i64 0))]
set_option maxRecDepth 20000 in
set_option maxHeartbeats 3200000 in
theorem ratDiv_fact {x y : Rat} {n : Nat} {v v2 : Value} {w : World} (h : PRat x n v w) (h2 : PRat y n v2 w) (hn3 : 3 ≤ n) (hn : n ≤ 10000) (hy : y ≠ 0) :
  Calls Tryz.prog 28 #[v, v2] w fun e w' => ∃ v, e = .returned v ∧ RatOk (x / y) (n + n + 1) v w' ∧ Below w.heap.size w w' := by
 obtain ⟨k, A, l, c, k', A', l', c', rfl⟩ := h.open
 obtain ⟨r, E, m, d, r', E', m', d', rfl⟩ := h2.open
 have H1 := Lib.hid h
 have H2 := Lib.hid h2
 clear h h2
 go_enter Tryz.func28, Tryz.ntmps28
 go_upto_region 1 with (fail)
 change Code.wp Tryz.prog _ _ _ (((w.alloc (.cells #[.bool k, .slice A l c, .bool k', .slice A' l' c'] 27)).alloc (.cells #[.bool r, .slice E m d, .bool r', .slice E' m' d'] 27)).alloc (.cells #[.bool false, .slice none 0 0, .bool false, .slice none 0 0] 27))
 obtain ⟨nb2, nb3, nb4, na⟩ := new3 w 27 [.bool k, .slice A l c, .bool k', .slice A' l' c'] 27 [.bool r, .slice E m d, .bool r', .slice E' m' d'] 27 [.bool false, .slice none 0 0, .bool false, .slice none 0 0] lf4 lf4 lf4
 have nkeep := Keep.ofBelow na
 have nbel := na
 generalize ((w.alloc (.cells #[.bool k, .slice A l c, .bool k', .slice A' l' c'] 27)).alloc (.cells #[.bool r, .slice E m d, .bool r', .slice E' m' d'] 27)).alloc (.cells #[.bool false, .slice none 0 0, .bool false, .slice none 0 0] 27) = W1 at *
 clear na
 have b2 := Lib.hid nb2
 have b3 := Lib.hid nb3
 have b4 := Lib.hid nb4
 clear nb2 nb3 nb4
 replace H1 := Lib.hid (H1.out.kept nkeep)
 replace H2 := Lib.hid (H2.out.kept nkeep)
 clear nkeep
 have HB2 := Lib.hid nbel
 clear nbel
 obtain ⟨x2_0, x2_1, x2_2, x2_3, s2⟩ := b2.out.d4
 obtain ⟨x3_0, x3_1, x3_2, x3_3, s3⟩ := b3.out.d4
 obtain ⟨x4_0, x4_1, x4_2, x4_3, s4⟩ := b4.out.d4
 have szb := HB2.out.size
 go_wp2_with fail
 refine (terms_fact H1.out hn3).mono ?_
 rintro e W3 ⟨k1, A1, l1, c1, j1, B1, o1, e1, rfl, ha_, hc_, hb⟩
 replace b2 := hup b2 hb
 replace b3 := hup b3 hb
 replace b4 := hup b4 hb
 replace H1 := Lib.hid (H1.out.kept (Keep.ofBelow hb))
 replace H2 := Lib.hid (H2.out.kept (Keep.ofBelow hb))
 have nbel := below_then HB2.out hb HB2.out.size
 have HB4 := Lib.hid nbel
 clear nbel HB2 hb x2_0 x2_1 x2_2 x2_3 x3_0 x3_1 x3_2 x3_3 x4_0 x4_1 x4_2 x4_3 szb s2 s3 s4
 obtain ⟨x2_0, x2_1, x2_2, x2_3, s2⟩ := b2.out.d4
 obtain ⟨x3_0, x3_1, x3_2, x3_3, s3⟩ := b3.out.d4
 obtain ⟨x4_0, x4_1, x4_2, x4_3, s4⟩ := b4.out.d4
 have szb := HB4.out.size
 have HA := Lib.hid ha_
 have HB := Lib.hid hc_
 clear ha_ hc_
 go_upto_region 2 with (fail)
 have q5 := b2.out.lt
 have q6 := b3.out.lt
 have q7 := b4.out.lt
 change Code.wp Tryz.prog _ _ _ ((W3.alloc (.cells #[.bool k1, .slice A1 l1 c1] 25)).alloc (.cells #[.bool j1, .slice B1 o1 e1] 25))
 obtain ⟨nb6, nb7, na⟩ := new2 W3 25 [.bool k1, .slice A1 l1 c1] 25 [.bool j1, .slice B1 o1 e1] lf2 lf2
 have nb2 := b2.out.up na
 have nb3 := b3.out.up na
 have nb4 := b4.out.up na
 have nkeep := Keep.ofBelow na
 have nbel := below_then HB4.out na HB4.out.size
 generalize (W3.alloc (.cells #[.bool k1, .slice A1 l1 c1] 25)).alloc (.cells #[.bool j1, .slice B1 o1 e1] 25) = W8 at *
 clear na x2_0 x2_1 x2_2 x2_3 x3_0 x3_1 x3_2 x3_3 x4_0 x4_1 x4_2 x4_3 szb s2 s3 s4 b2 b3 b4
 have b2 := Lib.hid nb2
 have b3 := Lib.hid nb3
 have b4 := Lib.hid nb4
 have b6 := Lib.hid nb6
 have b7 := Lib.hid nb7
 clear nb2 nb3 nb4 nb6 nb7
 replace H1 := Lib.hid (H1.out.kept nkeep)
 replace H2 := Lib.hid (H2.out.kept nkeep)
 replace HA := Lib.hid (HA.out.kept nkeep)
 replace HB := Lib.hid (HB.out.kept nkeep)
 clear nkeep
 have HB9 := Lib.hid nbel
 clear nbel HB4
 obtain ⟨x2_0, x2_1, x2_2, x2_3, s2⟩ := b2.out.d4
 obtain ⟨x3_0, x3_1, x3_2, x3_3, s3⟩ := b3.out.d4
 obtain ⟨x4_0, x4_1, x4_2, x4_3, s4⟩ := b4.out.d4
 obtain ⟨x6_0, x6_1, s6⟩ := b6.out.d2
 obtain ⟨x7_0, x7_1, s7⟩ := b7.out.d2
 have szb := HB9.out.size
 go_wp2_with fail
 refine (terms_fact H2.out hn3).mono ?_
 rintro e W10 ⟨k2, A2, l2, c2, j2, B2, o2, e2, rfl, ha_, hc_, hb⟩
 replace b2 := hup b2 hb
 replace b3 := hup b3 hb
 replace b4 := hup b4 hb
 replace b6 := hup b6 hb
 replace b7 := hup b7 hb
 replace H1 := Lib.hid (H1.out.kept (Keep.ofBelow hb))
 replace H2 := Lib.hid (H2.out.kept (Keep.ofBelow hb))
 replace HA := Lib.hid (HA.out.kept (Keep.ofBelow hb))
 replace HB := Lib.hid (HB.out.kept (Keep.ofBelow hb))
 have nbel := below_then HB9.out hb HB9.out.size
 have HB11 := Lib.hid nbel
 clear nbel HB9 hb x2_0 x2_1 x2_2 x2_3 x3_0 x3_1 x3_2 x3_3 x4_0 x4_1 x4_2 x4_3 x6_0 x6_1 x7_0 x7_1 szb s2 s3 s4 s6 s7
 obtain ⟨x2_0, x2_1, x2_2, x2_3, s2⟩ := b2.out.d4
 obtain ⟨x3_0, x3_1, x3_2, x3_3, s3⟩ := b3.out.d4
 obtain ⟨x4_0, x4_1, x4_2, x4_3, s4⟩ := b4.out.d4
 obtain ⟨x6_0, x6_1, s6⟩ := b6.out.d2
 obtain ⟨x7_0, x7_1, s7⟩ := b7.out.d2
 have szb := HB11.out.size
 have HC := Lib.hid ha_
 have HD := Lib.hid hc_
 clear ha_ hc_
 go_upto_region 3 with (fail)
 have q12 := b2.out.lt
 have q13 := b3.out.lt
 have q14 := b4.out.lt
 have q15 := b6.out.lt
 have q16 := b7.out.lt
 change Code.wp Tryz.prog _ _ _ ((W10.alloc (.cells #[.bool k2, .slice A2 l2 c2] 25)).alloc (.cells #[.bool j2, .slice B2 o2 e2] 25))
 obtain ⟨nb8, nb9, na⟩ := new2 W10 25 [.bool k2, .slice A2 l2 c2] 25 [.bool j2, .slice B2 o2 e2] lf2 lf2
 have nb2 := b2.out.up na
 have nb3 := b3.out.up na
 have nb4 := b4.out.up na
 have nb6 := b6.out.up na
 have nb7 := b7.out.up na
 have nkeep := Keep.ofBelow na
 have nbel := below_then HB11.out na HB11.out.size
 generalize (W10.alloc (.cells #[.bool k2, .slice A2 l2 c2] 25)).alloc (.cells #[.bool j2, .slice B2 o2 e2] 25) = W17 at *
 clear na x2_0 x2_1 x2_2 x2_3 x3_0 x3_1 x3_2 x3_3 x4_0 x4_1 x4_2 x4_3 x6_0 x6_1 x7_0 x7_1 szb s2 s3 s4 s6 s7 b2 b3 b4 b6 b7
 have b2 := Lib.hid nb2
 have b3 := Lib.hid nb3
 have b4 := Lib.hid nb4
 have b6 := Lib.hid nb6
 have b7 := Lib.hid nb7
 have b8 := Lib.hid nb8
 have b9 := Lib.hid nb9
 clear nb2 nb3 nb4 nb6 nb7 nb8 nb9
 replace H1 := Lib.hid (H1.out.kept nkeep)
 replace H2 := Lib.hid (H2.out.kept nkeep)
 replace HA := Lib.hid (HA.out.kept nkeep)
 replace HB := Lib.hid (HB.out.kept nkeep)
 replace HC := Lib.hid (HC.out.kept nkeep)
 replace HD := Lib.hid (HD.out.kept nkeep)
 clear nkeep
 have HB18 := Lib.hid nbel
 clear nbel HB11
 obtain ⟨x2_0, x2_1, x2_2, x2_3, s2⟩ := b2.out.d4
 obtain ⟨x3_0, x3_1, x3_2, x3_3, s3⟩ := b3.out.d4
 obtain ⟨x4_0, x4_1, x4_2, x4_3, s4⟩ := b4.out.d4
 obtain ⟨x6_0, x6_1, s6⟩ := b6.out.d2
 obtain ⟨x7_0, x7_1, s7⟩ := b7.out.d2
 obtain ⟨x8_0, x8_1, s8⟩ := b8.out.d2
 obtain ⟨x9_0, x9_1, s9⟩ := b9.out.d2
 have szb := HB18.out.size
 refine AS.region_facts (ratDivFL x y n) (JRes w W17 27 (w.heap.size + 1 + 1)) [[], [], [20, 21], [], [], [23, 24], [22, 25], [26], [26], [27], [28]] [9] [[], [27]] [0, 0, 1, 0, 0, 1, 1, 1, 1, 1, 1] [] (fun u => by simp only [ratDivFL, AS.temps, List.map_cons, List.map_nil, fillL, List.setIfInBounds_toArray, List.set_cons_zero, List.set_cons_succ]; rfl) (by kernel_rfl) (by kernel_rfl) (JRes.st w W17 27 (w.heap.size + 1 + 1)) (below_drew (Below.refl _ _)) ?_ ?_
 ·refine AS.sc rfl rfl rfl ?_ ?_
  ·intro k_ u w_ hk hJ hF K hK
   clear hF
   obtain rfl : k_ = 0 := Nat.le_zero.1 hk
   have hJ0 : Below W17.heap.size W17 w_ := hJ
   obtain ⟨y0, y1⟩ := ((b6.out).up hJ0).c2
   go_simp
   exact hK.out _ _ (Below.refl _ _) ((HA.out).kept (Keep.ofBelow hJ0)) trivial
  refine AS.sc rfl rfl rfl ?_ ?_
  ·intro k_ u w_ hk hJ hF K hK
   clear hF
   obtain rfl : k_ = 0 := Nat.le_zero.1 hk
   have hJ0 : Below W17.heap.size W17 w_ := hJ
   obtain ⟨y0, y1⟩ := ((b9.out).up hJ0).c2
   go_simp
   exact hK.out _ _ (Below.refl _ _) ((HD.out).kept (Keep.ofBelow hJ0)) trivial
  refine AS.sc rfl rfl rfl ?_ ?_
  ·intro k_ u w_ hk hJ hF K hK
   have h20 : PInt (x.num) n (u 20) w_ := AS.facts_get hF 20 (by simp)
   have h21 : PInt ((y.den : Int)) n (u 21) w_ := AS.facts_get hF 21 (by simp)
   clear hF
   go_simp
   refine (mul_fact h20 h21 (by omega) (by omega)).mono ?_
   rintro e w' ⟨v, rfl, hv, hb⟩
   exact hK.out _ _ hb (hv) trivial
  refine AS.sc rfl rfl rfl ?_ ?_
  ·intro k_ u w_ hk hJ hF K hK
   clear hF
   obtain rfl : k_ = 0 := Nat.le_zero.1 hk
   have hJ0 : Below W17.heap.size W17 w_ := hJ
   obtain ⟨y0, y1⟩ := ((b7.out).up hJ0).c2
   go_simp
   exact hK.out _ _ (Below.refl _ _) ((HB.out).kept (Keep.ofBelow hJ0)) trivial
  refine AS.sc rfl rfl rfl ?_ ?_
  ·intro k_ u w_ hk hJ hF K hK
   clear hF
   obtain rfl : k_ = 0 := Nat.le_zero.1 hk
   have hJ0 : Below W17.heap.size W17 w_ := hJ
   obtain ⟨y0, y1⟩ := ((b8.out).up hJ0).c2
   go_simp
   exact hK.out _ _ (Below.refl _ _) ((HC.out).kept (Keep.ofBelow hJ0)) trivial
  refine AS.sc rfl rfl rfl ?_ ?_
  ·intro k_ u w_ hk hJ hF K hK
   have h23 : PInt ((x.den : Int)) n (u 23) w_ := AS.facts_get hF 23 (by simp)
   have h24 : PInt (y.num) n (u 24) w_ := AS.facts_get hF 24 (by simp)
   clear hF
   go_simp
   refine (mul_fact h23 h24 (by omega) (by omega)).mono ?_
   rintro e w' ⟨v, rfl, hv, hb⟩
   exact hK.out _ _ hb (hv) trivial
  refine AS.sc rfl rfl rfl ?_ ?_
  ·intro k_ u w_ hk hJ hF K hK
   have h22 : PInt ((x.num) * ((y.den : Int))) (n + n) (u 22) w_ := AS.facts_get hF 22 (by simp)
   have h25 : PInt (((x.den : Int)) * (y.num)) (n + n) (u 25) w_ := AS.facts_get hF 25 (by simp)
   clear hF
   go_simp
   refine (new_ok (n := n + n) (m := n + n) h22 h25 (by omega) (mul_ne (den_ne x) (fun h => hy (Rat.num_eq_zero.1 h)))).mono ?_
   rintro e w' ⟨v, rfl, ⟨v0, e0, hv⟩, hb⟩
   exact hK.out _ _ hb (⟨v0, e0, by rw [div_terms, Nat.max_self] at hv; exact hv⟩) trivial
  refine AS.sc rfl rfl rfl ?_ ?_
  ·intro k_ u w_ hk hJ hF K hK
   have h26 : RatOk (x / y) (n + n + 1) (u 26) w_ := AS.facts_get hF 26 (by simp)
   clear hF
   obtain ⟨v0, e0, hv0⟩ := h26
   simp only [e0] at hK ⊢
   go_simp
   exact hK.out _ _ (Below.refl _ _) (hv0) trivial
  refine AS.sc rfl rfl rfl ?_ ?_
  ·intro k_ u w_ hk hJ hF K hK
   have h26 : RatOk (x / y) (n + n + 1) (u 26) w_ := AS.facts_get hF 26 (by simp)
   clear hF
   obtain ⟨v0, e0, hv0⟩ := h26
   simp only [e0] at hK ⊢
   go_simp
   exact hK.out _ _ (Below.refl _ _) (rfl) trivial
  refine AS.ss rfl rfl ?_ ?_
  ·intro u w_ hJ hAp hF K hK
   have h27 : PRat (x / y) (n + n + 1) (u 27) w_ := AS.facts_get hF 27 (by simp)
   clear hF
   obtain ⟨k1, A1, l1, c1, k2, A2, l2, c2, e_⟩ := h27.open
   have hJ0 : Below W17.heap.size W17 w_ := hJ
   have bx := (b4.out).up hJ0
   have hbel := below_then HB18.out hJ0 HB18.out.size
   have y0 := bx.cell 0
   have z0 := bx.frozen 0
   have y1 := bx.cell 1
   have z1 := bx.frozen 1
   have y2 := bx.cell 2
   have z2 := bx.frozen 2
   have y3 := bx.cell 3
   have z3 := bx.frozen 3
   simp only [List.getElem?_cons_zero, List.getElem?_cons_succ] at y0 y1 y2 y3
   simp only [e_] at hK ⊢
   go_simp
   exact hK.out undef _ ⟨⟨(Below.setCell (p := ⟨w.heap.size + 1 + 1, 3, none⟩) (Below.setCell (p := ⟨w.heap.size + 1 + 1, 2, none⟩) (Below.set2 (g := w.heap.size + 1 + 1) hbel (by first | omega | (simp; done) | (simp; omega)) (.bool k1) (.slice A1 l1 c1)) (by first | omega | (simp; done) | (simp; omega)) (.bool k2)) (by first | omega | (simp; done) | (simp; omega)) (.slice A2 l2 c2)), (by simp only [setCell_size]; first | exact hsz | exact Nat.le_trans HB18.out.size hJ0.size)⟩, [.bool k1, .slice A1 l1 c1, .bool k2, .slice A2 l2 c2], by simp [e_], (Bx.set4 bx (Leaf.bool k1) (Leaf.slice A1 l1 c1) (Leaf.bool k2) (Leaf.slice A2 l2 c2))⟩ (Keep.set4 (Keep.refl w_) bx (Leaf.bool k1) (Leaf.slice A1 l1 c1) (Leaf.bool k2) (Leaf.slice A2 l2 c2))
  refine AS.sc rfl rfl rfl ?_ ?_
  ·intro k_ u w_ hk hJ hF K hK
   have h28 : u 28 = .int .i64 0 := AS.facts_get hF 28 (by simp)
   clear hF
   simp only [h28] at hK ⊢
   clear h28
   go_simp
   exact hK.out _ _ (Below.refl _ _) (rfl) trivial
  exact AS.StepsOk.nil
 ·intro u W19 hJ9 hF
  have h27 : PRat (x / y) (n + n + 1) (u 27) W19 := AS.facts_get hF 27 (by simp [ratDivFL, AS.temps])
  have h5 : u 5 = .int .i64 0 := AS.facts_get hF 5 (by simp [ratDivFL, AS.temps])
  clear hF
  rw [show u 5 = _ from h5]
  clear h5
  obtain ⟨⟨hbel, -⟩, vs, hvs, hbx⟩ := hJ9
  obtain ⟨ka, Aa, la, ca, kb, Ab, lb, cb, ea⟩ := h27.open
  rw [ea] at h27
  obtain rfl : vs = [.bool ka, .slice Aa la ca, .bool kb, .slice Ab lb cb] := by
   have e1 := (List.cons.inj hvs).1
   rw [show u 27 = _ from ea] at e1
   have e2 := congrArg Array.toList (Value.agg.inj e1)
   simpa using e2.symm
  have y0 := hbx.cell 0
  have y1 := hbx.cell 1
  have y2 := hbx.cell 2
  have y3 := hbx.cell 3
  simp only [List.getElem?_cons_zero, List.getElem?_cons_succ] at y0 y1 y2 y3
  go_wp2_with fail
  refine bodyPost_ret (v := .tuple #[.agg #[.bool ka, .slice Aa la ca, .bool kb, .slice Ab lb cb], .int .i64 0]) (by simp [results, Tryz.results28, go_sem, y0, y1, y2, y3]) rfl ⟨_, rfl, ⟨_, rfl, h27⟩, hbel⟩
def ratDiv0FL (x y : Rat) (n : Nat) : List (Nat × AS.Fact) := [(20, AS.Fact.int (x.num) n), (21, AS.Fact.int ((y.den : Int)) n), (22, AS.Fact.int ((x.num) * ((y.den : Int))) (n + n)), (23, AS.Fact.int ((x.den : Int)) n), (24, AS.Fact.int (y.num) n), (25, AS.Fact.int (((x.den : Int)) * (y.num)) (n + n)), (26, AS.Fact.is (.tuple #[.agg #[.bool false, .slice none 0 0, .bool false, .slice none 0 0], .int .i64 10])), (27, AS.Fact.is (.agg #[.bool false, .slice none 0 0, .bool false, .slice none 0 0])), (28, AS.Fact.is (.int .i64 10)), (5, AS.Fact.is (.int .i64 10))]
set_option maxRecDepth 20000 in
set_option maxHeartbeats 3200000 in
theorem ratDiv_zero {x y : Rat} {n : Nat} {v v2 : Value} {w : World} (h : PRat x n v w) (h2 : PRat y n v2 w) (hn3 : 3 ≤ n) (hn : n ≤ 10000) (hy : y = 0) :
  Calls Tryz.prog 28 #[v, v2] w fun e w' => e = .returned (.tuple #[.agg #[.bool false, .slice none 0 0, .bool false, .slice none 0 0], .int .i64 10]) ∧ Below w.heap.size w w' := by
 have HY := Lib.hid hy
 clear hy
 obtain ⟨k, A, l, c, k', A', l', c', rfl⟩ := h.open
 obtain ⟨r, E, m, d, r', E', m', d', rfl⟩ := h2.open
 have H1 := Lib.hid h
 have H2 := Lib.hid h2
 clear h h2
 go_enter Tryz.func28, Tryz.ntmps28
 go_upto_region 1 with (fail)
 change Code.wp Tryz.prog _ _ _ (((w.alloc (.cells #[.bool k, .slice A l c, .bool k', .slice A' l' c'] 27)).alloc (.cells #[.bool r, .slice E m d, .bool r', .slice E' m' d'] 27)).alloc (.cells #[.bool false, .slice none 0 0, .bool false, .slice none 0 0] 27))
 obtain ⟨nb2, nb3, nb4, na⟩ := new3 w 27 [.bool k, .slice A l c, .bool k', .slice A' l' c'] 27 [.bool r, .slice E m d, .bool r', .slice E' m' d'] 27 [.bool false, .slice none 0 0, .bool false, .slice none 0 0] lf4 lf4 lf4
 have nkeep := Keep.ofBelow na
 have nbel := na
 generalize ((w.alloc (.cells #[.bool k, .slice A l c, .bool k', .slice A' l' c'] 27)).alloc (.cells #[.bool r, .slice E m d, .bool r', .slice E' m' d'] 27)).alloc (.cells #[.bool false, .slice none 0 0, .bool false, .slice none 0 0] 27) = W1 at *
 clear na
 have b2 := Lib.hid nb2
 have b3 := Lib.hid nb3
 have b4 := Lib.hid nb4
 clear nb2 nb3 nb4
 replace H1 := Lib.hid (H1.out.kept nkeep)
 replace H2 := Lib.hid (H2.out.kept nkeep)
 clear nkeep
 have HB2 := Lib.hid nbel
 clear nbel
 obtain ⟨x2_0, x2_1, x2_2, x2_3, s2⟩ := b2.out.d4
 obtain ⟨x3_0, x3_1, x3_2, x3_3, s3⟩ := b3.out.d4
 obtain ⟨x4_0, x4_1, x4_2, x4_3, s4⟩ := b4.out.d4
 have szb := HB2.out.size
 go_wp2_with fail
 refine (terms_fact H1.out hn3).mono ?_
 rintro e W3 ⟨k1, A1, l1, c1, j1, B1, o1, e1, rfl, ha_, hc_, hb⟩
 replace b2 := hup b2 hb
 replace b3 := hup b3 hb
 replace b4 := hup b4 hb
 replace H1 := Lib.hid (H1.out.kept (Keep.ofBelow hb))
 replace H2 := Lib.hid (H2.out.kept (Keep.ofBelow hb))
 have nbel := below_then HB2.out hb HB2.out.size
 have HB4 := Lib.hid nbel
 clear nbel HB2 hb x2_0 x2_1 x2_2 x2_3 x3_0 x3_1 x3_2 x3_3 x4_0 x4_1 x4_2 x4_3 szb s2 s3 s4
 obtain ⟨x2_0, x2_1, x2_2, x2_3, s2⟩ := b2.out.d4
 obtain ⟨x3_0, x3_1, x3_2, x3_3, s3⟩ := b3.out.d4
 obtain ⟨x4_0, x4_1, x4_2, x4_3, s4⟩ := b4.out.d4
 have szb := HB4.out.size
 have HA := Lib.hid ha_
 have HB := Lib.hid hc_
 clear ha_ hc_
 go_upto_region 2 with (fail)
 have q5 := b2.out.lt
 have q6 := b3.out.lt
 have q7 := b4.out.lt
 change Code.wp Tryz.prog _ _ _ ((W3.alloc (.cells #[.bool k1, .slice A1 l1 c1] 25)).alloc (.cells #[.bool j1, .slice B1 o1 e1] 25))
 obtain ⟨nb6, nb7, na⟩ := new2 W3 25 [.bool k1, .slice A1 l1 c1] 25 [.bool j1, .slice B1 o1 e1] lf2 lf2
 have nb2 := b2.out.up na
 have nb3 := b3.out.up na
 have nb4 := b4.out.up na
 have nkeep := Keep.ofBelow na
 have nbel := below_then HB4.out na HB4.out.size
 generalize (W3.alloc (.cells #[.bool k1, .slice A1 l1 c1] 25)).alloc (.cells #[.bool j1, .slice B1 o1 e1] 25) = W8 at *
 clear na x2_0 x2_1 x2_2 x2_3 x3_0 x3_1 x3_2 x3_3 x4_0 x4_1 x4_2 x4_3 szb s2 s3 s4 b2 b3 b4
 have b2 := Lib.hid nb2
 have b3 := Lib.hid nb3
 have b4 := Lib.hid nb4
 have b6 := Lib.hid nb6
 have b7 := Lib.hid nb7
 clear nb2 nb3 nb4 nb6 nb7
 replace H1 := Lib.hid (H1.out.kept nkeep)
 replace H2 := Lib.hid (H2.out.kept nkeep)
 replace HA := Lib.hid (HA.out.kept nkeep)
 replace HB := Lib.hid (HB.out.kept nkeep)
 clear nkeep
 have HB9 := Lib.hid nbel
 clear nbel HB4
 obtain ⟨x2_0, x2_1, x2_2, x2_3, s2⟩ := b2.out.d4
 obtain ⟨x3_0, x3_1, x3_2, x3_3, s3⟩ := b3.out.d4
 obtain ⟨x4_0, x4_1, x4_2, x4_3, s4⟩ := b4.out.d4
 obtain ⟨x6_0, x6_1, s6⟩ := b6.out.d2
 obtain ⟨x7_0, x7_1, s7⟩ := b7.out.d2
 have szb := HB9.out.size
 go_wp2_with fail
 refine (terms_fact H2.out hn3).mono ?_
 rintro e W10 ⟨k2, A2, l2, c2, j2, B2, o2, e2, rfl, ha_, hc_, hb⟩
 replace b2 := hup b2 hb
 replace b3 := hup b3 hb
 replace b4 := hup b4 hb
 replace b6 := hup b6 hb
 replace b7 := hup b7 hb
 replace H1 := Lib.hid (H1.out.kept (Keep.ofBelow hb))
 replace H2 := Lib.hid (H2.out.kept (Keep.ofBelow hb))
 replace HA := Lib.hid (HA.out.kept (Keep.ofBelow hb))
 replace HB := Lib.hid (HB.out.kept (Keep.ofBelow hb))
 have nbel := below_then HB9.out hb HB9.out.size
 have HB11 := Lib.hid nbel
 clear nbel HB9 hb x2_0 x2_1 x2_2 x2_3 x3_0 x3_1 x3_2 x3_3 x4_0 x4_1 x4_2 x4_3 x6_0 x6_1 x7_0 x7_1 szb s2 s3 s4 s6 s7
 obtain ⟨x2_0, x2_1, x2_2, x2_3, s2⟩ := b2.out.d4
 obtain ⟨x3_0, x3_1, x3_2, x3_3, s3⟩ := b3.out.d4
 obtain ⟨x4_0, x4_1, x4_2, x4_3, s4⟩ := b4.out.d4
 obtain ⟨x6_0, x6_1, s6⟩ := b6.out.d2
 obtain ⟨x7_0, x7_1, s7⟩ := b7.out.d2
 have szb := HB11.out.size
 have HC := Lib.hid ha_
 have HD := Lib.hid hc_
 clear ha_ hc_
 go_upto_region 3 with (fail)
 have q12 := b2.out.lt
 have q13 := b3.out.lt
 have q14 := b4.out.lt
 have q15 := b6.out.lt
 have q16 := b7.out.lt
 change Code.wp Tryz.prog _ _ _ ((W10.alloc (.cells #[.bool k2, .slice A2 l2 c2] 25)).alloc (.cells #[.bool j2, .slice B2 o2 e2] 25))
 obtain ⟨nb8, nb9, na⟩ := new2 W10 25 [.bool k2, .slice A2 l2 c2] 25 [.bool j2, .slice B2 o2 e2] lf2 lf2
 have nb2 := b2.out.up na
 have nb3 := b3.out.up na
 have nb4 := b4.out.up na
 have nb6 := b6.out.up na
 have nb7 := b7.out.up na
 have nkeep := Keep.ofBelow na
 have nbel := below_then HB11.out na HB11.out.size
 generalize (W10.alloc (.cells #[.bool k2, .slice A2 l2 c2] 25)).alloc (.cells #[.bool j2, .slice B2 o2 e2] 25) = W17 at *
 clear na x2_0 x2_1 x2_2 x2_3 x3_0 x3_1 x3_2 x3_3 x4_0 x4_1 x4_2 x4_3 x6_0 x6_1 x7_0 x7_1 szb s2 s3 s4 s6 s7 b2 b3 b4 b6 b7
 have b2 := Lib.hid nb2
 have b3 := Lib.hid nb3
 have b4 := Lib.hid nb4
 have b6 := Lib.hid nb6
 have b7 := Lib.hid nb7
 have b8 := Lib.hid nb8
 have b9 := Lib.hid nb9
 clear nb2 nb3 nb4 nb6 nb7 nb8 nb9
 replace H1 := Lib.hid (H1.out.kept nkeep)
 replace H2 := Lib.hid (H2.out.kept nkeep)
 replace HA := Lib.hid (HA.out.kept nkeep)
 replace HB := Lib.hid (HB.out.kept nkeep)
 replace HC := Lib.hid (HC.out.kept nkeep)
 replace HD := Lib.hid (HD.out.kept nkeep)
 clear nkeep
 have HB18 := Lib.hid nbel
 clear nbel HB11
 obtain ⟨x2_0, x2_1, x2_2, x2_3, s2⟩ := b2.out.d4
 obtain ⟨x3_0, x3_1, x3_2, x3_3, s3⟩ := b3.out.d4
 obtain ⟨x4_0, x4_1, x4_2, x4_3, s4⟩ := b4.out.d4
 obtain ⟨x6_0, x6_1, s6⟩ := b6.out.d2
 obtain ⟨x7_0, x7_1, s7⟩ := b7.out.d2
 obtain ⟨x8_0, x8_1, s8⟩ := b8.out.d2
 obtain ⟨x9_0, x9_1, s9⟩ := b9.out.d2
 have szb := HB18.out.size
 refine AS.region_facts (ratDiv0FL x y n) (JRes w W17 27 (w.heap.size + 1 + 1)) [[], [], [20, 21], [], [], [23, 24], [22, 25], [26], [26], [27], [28]] [9] [[], [27]] [0, 0, 1, 0, 0, 1, 1, 1, 1, 1, 1] [] (fun u => by simp only [ratDiv0FL, AS.temps, List.map_cons, List.map_nil, fillL, List.setIfInBounds_toArray, List.set_cons_zero, List.set_cons_succ]; rfl) (by kernel_rfl) (by kernel_rfl) (JRes.st w W17 27 (w.heap.size + 1 + 1)) (below_drew (Below.refl _ _)) ?_ ?_
 ·refine AS.sc rfl rfl rfl ?_ ?_
  ·intro k_ u w_ hk hJ hF K hK
   clear hF
   obtain rfl : k_ = 0 := Nat.le_zero.1 hk
   have hJ0 : Below W17.heap.size W17 w_ := hJ
   obtain ⟨y0, y1⟩ := ((b6.out).up hJ0).c2
   go_simp
   exact hK.out _ _ (Below.refl _ _) ((HA.out).kept (Keep.ofBelow hJ0)) trivial
  refine AS.sc rfl rfl rfl ?_ ?_
  ·intro k_ u w_ hk hJ hF K hK
   clear hF
   obtain rfl : k_ = 0 := Nat.le_zero.1 hk
   have hJ0 : Below W17.heap.size W17 w_ := hJ
   obtain ⟨y0, y1⟩ := ((b9.out).up hJ0).c2
   go_simp
   exact hK.out _ _ (Below.refl _ _) ((HD.out).kept (Keep.ofBelow hJ0)) trivial
  refine AS.sc rfl rfl rfl ?_ ?_
  ·intro k_ u w_ hk hJ hF K hK
   have h20 : PInt (x.num) n (u 20) w_ := AS.facts_get hF 20 (by simp)
   have h21 : PInt ((y.den : Int)) n (u 21) w_ := AS.facts_get hF 21 (by simp)
   clear hF
   go_simp
   refine (mul_fact h20 h21 (by omega) (by omega)).mono ?_
   rintro e w' ⟨v, rfl, hv, hb⟩
   exact hK.out _ _ hb (hv) trivial
  refine AS.sc rfl rfl rfl ?_ ?_
  ·intro k_ u w_ hk hJ hF K hK
   clear hF
   obtain rfl : k_ = 0 := Nat.le_zero.1 hk
   have hJ0 : Below W17.heap.size W17 w_ := hJ
   obtain ⟨y0, y1⟩ := ((b7.out).up hJ0).c2
   go_simp
   exact hK.out _ _ (Below.refl _ _) ((HB.out).kept (Keep.ofBelow hJ0)) trivial
  refine AS.sc rfl rfl rfl ?_ ?_
  ·intro k_ u w_ hk hJ hF K hK
   clear hF
   obtain rfl : k_ = 0 := Nat.le_zero.1 hk
   have hJ0 : Below W17.heap.size W17 w_ := hJ
   obtain ⟨y0, y1⟩ := ((b8.out).up hJ0).c2
   go_simp
   exact hK.out _ _ (Below.refl _ _) ((HC.out).kept (Keep.ofBelow hJ0)) trivial
  refine AS.sc rfl rfl rfl ?_ ?_
  ·intro k_ u w_ hk hJ hF K hK
   have h23 : PInt ((x.den : Int)) n (u 23) w_ := AS.facts_get hF 23 (by simp)
   have h24 : PInt (y.num) n (u 24) w_ := AS.facts_get hF 24 (by simp)
   clear hF
   go_simp
   refine (mul_fact h23 h24 (by omega) (by omega)).mono ?_
   rintro e w' ⟨v, rfl, hv, hb⟩
   exact hK.out _ _ hb (hv) trivial
  refine AS.sc rfl rfl rfl ?_ ?_
  ·intro k_ u w_ hk hJ hF K hK
   have h22 : PInt ((x.num) * ((y.den : Int))) (n + n) (u 22) w_ := AS.facts_get hF 22 (by simp)
   have h25 : PInt (((x.den : Int)) * (y.num)) (n + n) (u 25) w_ := AS.facts_get hF 25 (by simp)
   clear hF
   go_simp
   refine (new_zero2 h22 h25 (by rw [HY.out]; simp)).mono ?_
   rintro e w' ⟨rfl, hb⟩
   exact hK.out _ _ hb (rfl) trivial
  refine AS.sc rfl rfl rfl ?_ ?_
  ·intro k_ u w_ hk hJ hF K hK
   have h26 : u 26 = .tuple #[.agg #[.bool false, .slice none 0 0, .bool false, .slice none 0 0], .int .i64 10] := AS.facts_get hF 26 (by simp)
   clear hF
   simp only [h26] at hK ⊢
   clear h26
   go_simp
   exact hK.out _ _ (Below.refl _ _) (rfl) trivial
  refine AS.sc rfl rfl rfl ?_ ?_
  ·intro k_ u w_ hk hJ hF K hK
   have h26 : u 26 = .tuple #[.agg #[.bool false, .slice none 0 0, .bool false, .slice none 0 0], .int .i64 10] := AS.facts_get hF 26 (by simp)
   clear hF
   simp only [h26] at hK ⊢
   clear h26
   go_simp
   exact hK.out _ _ (Below.refl _ _) (rfl) trivial
  refine AS.ss rfl rfl ?_ ?_
  ·intro u w_ hJ hAp hF K hK
   have h27 : u 27 = .agg #[.bool false, .slice none 0 0, .bool false, .slice none 0 0] := AS.facts_get hF 27 (by simp)
   clear hF
   have e_ := h27
   have hJ0 : Below W17.heap.size W17 w_ := hJ
   have bx := (b4.out).up hJ0
   have hbel := below_then HB18.out hJ0 HB18.out.size
   have y0 := bx.cell 0
   have z0 := bx.frozen 0
   have y1 := bx.cell 1
   have z1 := bx.frozen 1
   have y2 := bx.cell 2
   have z2 := bx.frozen 2
   have y3 := bx.cell 3
   have z3 := bx.frozen 3
   simp only [List.getElem?_cons_zero, List.getElem?_cons_succ] at y0 y1 y2 y3
   simp only [e_] at hK ⊢
   go_simp
   exact hK.out undef _ ⟨⟨(Below.setCell (p := ⟨w.heap.size + 1 + 1, 3, none⟩) (Below.setCell (p := ⟨w.heap.size + 1 + 1, 2, none⟩) (Below.set2 (g := w.heap.size + 1 + 1) hbel (by first | omega | (simp; done) | (simp; omega)) (.bool false) (.slice none 0 0)) (by first | omega | (simp; done) | (simp; omega)) (.bool false)) (by first | omega | (simp; done) | (simp; omega)) (.slice none 0 0)), (by simp only [setCell_size]; first | exact hsz | exact Nat.le_trans HB18.out.size hJ0.size)⟩, [.bool false, .slice none 0 0, .bool false, .slice none 0 0], by simp [e_], (Bx.set4 bx (Leaf.bool false) (Leaf.slice none 0 0) (Leaf.bool false) (Leaf.slice none 0 0))⟩ (Keep.set4 (Keep.refl w_) bx (Leaf.bool false) (Leaf.slice none 0 0) (Leaf.bool false) (Leaf.slice none 0 0))
  refine AS.sc rfl rfl rfl ?_ ?_
  ·intro k_ u w_ hk hJ hF K hK
   have h28 : u 28 = .int .i64 10 := AS.facts_get hF 28 (by simp)
   clear hF
   simp only [h28] at hK ⊢
   clear h28
   go_simp
   exact hK.out _ _ (Below.refl _ _) (rfl) trivial
  exact AS.StepsOk.nil
 ·intro u W19 hJ9 hF
  have h27 : u 27 = .agg #[.bool false, .slice none 0 0, .bool false, .slice none 0 0] := AS.facts_get hF 27 (by simp [ratDiv0FL, AS.temps])
  have h5 : u 5 = .int .i64 10 := AS.facts_get hF 5 (by simp [ratDiv0FL, AS.temps])
  clear hF
  obtain ⟨⟨hbel, -⟩, vs, hvs, hbx⟩ := hJ9
  obtain rfl : vs = [.bool false, .slice none 0 0, .bool false, .slice none 0 0] := by
   have e1 := (List.cons.inj hvs).1
   rw [show u 27 = _ from h27] at e1
   have e2 := congrArg Array.toList (Value.agg.inj e1)
   simpa using e2.symm
  have y0 := hbx.cell 0
  have y1 := hbx.cell 1
  have y2 := hbx.cell 2
  have y3 := hbx.cell 3
  simp only [List.getElem?_cons_zero, List.getElem?_cons_succ] at y0 y1 y2 y3
  rw [show u 5 = _ from h5]
  clear h5
  go_wp2_with fail
  refine bodyPost_ret (v := .tuple #[.agg #[.bool false, .slice none 0 0, .bool false, .slice none 0 0], .int .i64 10]) (by simp [results, Tryz.results28, go_sem, y0, y1, y2, y3]) rfl ⟨rfl, hbel⟩
def rratMulFL (x y : Rat) (n : Nat) : List (Nat × AS.Fact) := [(19, AS.Fact.ref (x.num) n), (20, AS.Fact.ref (y.num) n), (21, AS.Fact.ref ((x.num) * (y.num)) (n + n)), (22, AS.Fact.ref ((x.den : Int)) n), (23, AS.Fact.ref ((y.den : Int)) n), (24, AS.Fact.ref (((x.den : Int)) * ((y.den : Int))) (n + n)), (25, AS.Fact.rrat (x * y) (n + n))]
set_option maxRecDepth 20000 in
set_option maxHeartbeats 3200000 in
theorem rratMul_fact {x y : Rat} {n : Nat} {v v2 : Value} {w : World} (h : RRat x n v w) (h2 : RRat y n v2 w) (hn3 : 5 ≤ n) (hn : n ≤ 4000) :
  Calls Tryz.prog 31 #[v, v2] w fun e w' => ∃ v, e = .returned v ∧ RRat (x * y) (n + n) v w' ∧ Below w.heap.size w w' := by
 obtain ⟨k, A, l, c, k', A', l', c', rfl⟩ := h.open
 obtain ⟨r, E, m, d, r', E', m', d', rfl⟩ := h2.open
 have H1 := Lib.hid h
 have H2 := Lib.hid h2
 clear h h2
 go_enter Tryz.func31, Tryz.ntmps31
 go_upto_region 1 with (fail)
 change Code.wp Tryz.prog _ _ _ (((w.alloc (.cells #[.bool k, .slice A l c, .bool k', .slice A' l' c'] 35)).alloc (.cells #[.bool r, .slice E m d, .bool r', .slice E' m' d'] 35)).alloc (.cells #[.bool false, .slice none 0 0, .bool false, .slice none 0 0] 35))
 obtain ⟨nb2, nb3, nb4, na⟩ := new3 w 35 [.bool k, .slice A l c, .bool k', .slice A' l' c'] 35 [.bool r, .slice E m d, .bool r', .slice E' m' d'] 35 [.bool false, .slice none 0 0, .bool false, .slice none 0 0] lf4 lf4 lf4
 have nkeep := Keep.ofBelow na
 have nbel := na
 generalize ((w.alloc (.cells #[.bool k, .slice A l c, .bool k', .slice A' l' c'] 35)).alloc (.cells #[.bool r, .slice E m d, .bool r', .slice E' m' d'] 35)).alloc (.cells #[.bool false, .slice none 0 0, .bool false, .slice none 0 0] 35) = W1 at *
 clear na
 have b2 := Lib.hid nb2
 have b3 := Lib.hid nb3
 have b4 := Lib.hid nb4
 clear nb2 nb3 nb4
 replace H1 := Lib.hid (H1.out.kept nkeep)
 replace H2 := Lib.hid (H2.out.kept nkeep)
 clear nkeep
 have HB2 := Lib.hid nbel
 clear nbel
 obtain ⟨x2_0, x2_1, x2_2, x2_3, s2⟩ := b2.out.d4
 obtain ⟨x3_0, x3_1, x3_2, x3_3, s3⟩ := b3.out.d4
 obtain ⟨x4_0, x4_1, x4_2, x4_3, s4⟩ := b4.out.d4
 have szb := HB2.out.size
 go_wp2_with fail
 refine (rparts_fact H1.out hn3).mono ?_
 rintro e W3 ⟨k1, A1, l1, c1, j1, B1, o1, e1, rfl, ha_, hc_, hb⟩
 replace b2 := hup b2 hb
 replace b3 := hup b3 hb
 replace b4 := hup b4 hb
 replace H1 := Lib.hid (H1.out.kept (Keep.ofBelow hb))
 replace H2 := Lib.hid (H2.out.kept (Keep.ofBelow hb))
 have nbel := below_then HB2.out hb HB2.out.size
 have HB4 := Lib.hid nbel
 clear nbel HB2 hb x2_0 x2_1 x2_2 x2_3 x3_0 x3_1 x3_2 x3_3 x4_0 x4_1 x4_2 x4_3 szb s2 s3 s4
 obtain ⟨x2_0, x2_1, x2_2, x2_3, s2⟩ := b2.out.d4
 obtain ⟨x3_0, x3_1, x3_2, x3_3, s3⟩ := b3.out.d4
 obtain ⟨x4_0, x4_1, x4_2, x4_3, s4⟩ := b4.out.d4
 have szb := HB4.out.size
 have HA := Lib.hid ha_
 have HB := Lib.hid hc_
 clear ha_ hc_
 go_upto_region 2 with (fail)
 have q5 := b2.out.lt
 have q6 := b3.out.lt
 have q7 := b4.out.lt
 change Code.wp Tryz.prog _ _ _ ((W3.alloc (.cells #[.bool k1, .slice A1 l1 c1] 33)).alloc (.cells #[.bool j1, .slice B1 o1 e1] 33))
 obtain ⟨nb5, nb6, na⟩ := new2 W3 33 [.bool k1, .slice A1 l1 c1] 33 [.bool j1, .slice B1 o1 e1] lf2 lf2
 have nb2 := b2.out.up na
 have nb3 := b3.out.up na
 have nb4 := b4.out.up na
 have nkeep := Keep.ofBelow na
 have nbel := below_then HB4.out na HB4.out.size
 generalize (W3.alloc (.cells #[.bool k1, .slice A1 l1 c1] 33)).alloc (.cells #[.bool j1, .slice B1 o1 e1] 33) = W8 at *
 clear na x2_0 x2_1 x2_2 x2_3 x3_0 x3_1 x3_2 x3_3 x4_0 x4_1 x4_2 x4_3 szb s2 s3 s4 b2 b3 b4
 have b2 := Lib.hid nb2
 have b3 := Lib.hid nb3
 have b4 := Lib.hid nb4
 have b5 := Lib.hid nb5
 have b6 := Lib.hid nb6
 clear nb2 nb3 nb4 nb5 nb6
 replace H1 := Lib.hid (H1.out.kept nkeep)
 replace H2 := Lib.hid (H2.out.kept nkeep)
 replace HA := Lib.hid (HA.out.kept nkeep)
 replace HB := Lib.hid (HB.out.kept nkeep)
 clear nkeep
 have HB9 := Lib.hid nbel
 clear nbel HB4
 obtain ⟨x2_0, x2_1, x2_2, x2_3, s2⟩ := b2.out.d4
 obtain ⟨x3_0, x3_1, x3_2, x3_3, s3⟩ := b3.out.d4
 obtain ⟨x4_0, x4_1, x4_2, x4_3, s4⟩ := b4.out.d4
 obtain ⟨x5_0, x5_1, s5⟩ := b5.out.d2
 obtain ⟨x6_0, x6_1, s6⟩ := b6.out.d2
 have szb := HB9.out.size
 go_wp2_with fail
 refine (rparts_fact H2.out hn3).mono ?_
 rintro e W10 ⟨k2, A2, l2, c2, j2, B2, o2, e2, rfl, ha_, hc_, hb⟩
 replace b2 := hup b2 hb
 replace b3 := hup b3 hb
 replace b4 := hup b4 hb
 replace b5 := hup b5 hb
 replace b6 := hup b6 hb
 replace H1 := Lib.hid (H1.out.kept (Keep.ofBelow hb))
 replace H2 := Lib.hid (H2.out.kept (Keep.ofBelow hb))
 replace HA := Lib.hid (HA.out.kept (Keep.ofBelow hb))
 replace HB := Lib.hid (HB.out.kept (Keep.ofBelow hb))
 have nbel := below_then HB9.out hb HB9.out.size
 have HB11 := Lib.hid nbel
 clear nbel HB9 hb x2_0 x2_1 x2_2 x2_3 x3_0 x3_1 x3_2 x3_3 x4_0 x4_1 x4_2 x4_3 x5_0 x5_1 x6_0 x6_1 szb s2 s3 s4 s5 s6
 obtain ⟨x2_0, x2_1, x2_2, x2_3, s2⟩ := b2.out.d4
 obtain ⟨x3_0, x3_1, x3_2, x3_3, s3⟩ := b3.out.d4
 obtain ⟨x4_0, x4_1, x4_2, x4_3, s4⟩ := b4.out.d4
 obtain ⟨x5_0, x5_1, s5⟩ := b5.out.d2
 obtain ⟨x6_0, x6_1, s6⟩ := b6.out.d2
 have szb := HB11.out.size
 have HC := Lib.hid ha_
 have HD := Lib.hid hc_
 clear ha_ hc_
 go_upto_region 3 with (fail)
 have q12 := b2.out.lt
 have q13 := b3.out.lt
 have q14 := b4.out.lt
 have q15 := b5.out.lt
 have q16 := b6.out.lt
 change Code.wp Tryz.prog _ _ _ ((W10.alloc (.cells #[.bool k2, .slice A2 l2 c2] 33)).alloc (.cells #[.bool j2, .slice B2 o2 e2] 33))
 obtain ⟨nb7, nb8, na⟩ := new2 W10 33 [.bool k2, .slice A2 l2 c2] 33 [.bool j2, .slice B2 o2 e2] lf2 lf2
 have nb2 := b2.out.up na
 have nb3 := b3.out.up na
 have nb4 := b4.out.up na
 have nb5 := b5.out.up na
 have nb6 := b6.out.up na
 have nkeep := Keep.ofBelow na
 have nbel := below_then HB11.out na HB11.out.size
 generalize (W10.alloc (.cells #[.bool k2, .slice A2 l2 c2] 33)).alloc (.cells #[.bool j2, .slice B2 o2 e2] 33) = W17 at *
 clear na x2_0 x2_1 x2_2 x2_3 x3_0 x3_1 x3_2 x3_3 x4_0 x4_1 x4_2 x4_3 x5_0 x5_1 x6_0 x6_1 szb s2 s3 s4 s5 s6 b2 b3 b4 b5 b6
 have b2 := Lib.hid nb2
 have b3 := Lib.hid nb3
 have b4 := Lib.hid nb4
 have b5 := Lib.hid nb5
 have b6 := Lib.hid nb6
 have b7 := Lib.hid nb7
 have b8 := Lib.hid nb8
 clear nb2 nb3 nb4 nb5 nb6 nb7 nb8
 replace H1 := Lib.hid (H1.out.kept nkeep)
 replace H2 := Lib.hid (H2.out.kept nkeep)
 replace HA := Lib.hid (HA.out.kept nkeep)
 replace HB := Lib.hid (HB.out.kept nkeep)
 replace HC := Lib.hid (HC.out.kept nkeep)
 replace HD := Lib.hid (HD.out.kept nkeep)
 clear nkeep
 have HB18 := Lib.hid nbel
 clear nbel HB11
 obtain ⟨x2_0, x2_1, x2_2, x2_3, s2⟩ := b2.out.d4
 obtain ⟨x3_0, x3_1, x3_2, x3_3, s3⟩ := b3.out.d4
 obtain ⟨x4_0, x4_1, x4_2, x4_3, s4⟩ := b4.out.d4
 obtain ⟨x5_0, x5_1, s5⟩ := b5.out.d2
 obtain ⟨x6_0, x6_1, s6⟩ := b6.out.d2
 obtain ⟨x7_0, x7_1, s7⟩ := b7.out.d2
 obtain ⟨x8_0, x8_1, s8⟩ := b8.out.d2
 have szb := HB18.out.size
 refine AS.region_facts (rratMulFL x y n) (JRes w W17 35 (w.heap.size + 1 + 1)) [[], [], [19, 20], [], [], [22, 23], [21, 24], [25]] [7] [[], [25]] [0, 0, 1, 0, 0, 1, 1, 1] [] (fun u => by simp only [rratMulFL, AS.temps, List.map_cons, List.map_nil, fillL, List.setIfInBounds_toArray, List.set_cons_zero, List.set_cons_succ]; rfl) (by kernel_rfl) (by kernel_rfl) (JRes.st w W17 35 (w.heap.size + 1 + 1)) (below_drew (Below.refl _ _)) ?_ ?_
 ·refine AS.sc rfl rfl rfl ?_ ?_
  ·intro k_ u w_ hk hJ hF K hK
   clear hF
   obtain rfl : k_ = 0 := Nat.le_zero.1 hk
   have hJ0 : Below W17.heap.size W17 w_ := hJ
   obtain ⟨y0, y1⟩ := ((b5.out).up hJ0).c2
   go_simp
   exact hK.out _ _ (Below.refl _ _) ((HA.out).kept (Keep.ofBelow hJ0)) trivial
  refine AS.sc rfl rfl rfl ?_ ?_
  ·intro k_ u w_ hk hJ hF K hK
   clear hF
   obtain rfl : k_ = 0 := Nat.le_zero.1 hk
   have hJ0 : Below W17.heap.size W17 w_ := hJ
   obtain ⟨y0, y1⟩ := ((b7.out).up hJ0).c2
   go_simp
   exact hK.out _ _ (Below.refl _ _) ((HC.out).kept (Keep.ofBelow hJ0)) trivial
  refine AS.sc rfl rfl rfl ?_ ?_
  ·intro k_ u w_ hk hJ hF K hK
   have h19 : PRef (x.num) n (u 19) w_ := AS.facts_get hF 19 (by simp)
   have h20 : PRef (y.num) n (u 20) w_ := AS.facts_get hF 20 (by simp)
   clear hF
   go_simp
   refine (rmul_fact h19 h20 (by omega) (by omega)).mono ?_
   rintro e w' ⟨v, rfl, hv, hb⟩
   exact hK.out _ _ hb (hv) trivial
  refine AS.sc rfl rfl rfl ?_ ?_
  ·intro k_ u w_ hk hJ hF K hK
   clear hF
   obtain rfl : k_ = 0 := Nat.le_zero.1 hk
   have hJ0 : Below W17.heap.size W17 w_ := hJ
   obtain ⟨y0, y1⟩ := ((b6.out).up hJ0).c2
   go_simp
   exact hK.out _ _ (Below.refl _ _) ((HB.out).kept (Keep.ofBelow hJ0)) trivial
  refine AS.sc rfl rfl rfl ?_ ?_
  ·intro k_ u w_ hk hJ hF K hK
   clear hF
   obtain rfl : k_ = 0 := Nat.le_zero.1 hk
   have hJ0 : Below W17.heap.size W17 w_ := hJ
   obtain ⟨y0, y1⟩ := ((b8.out).up hJ0).c2
   go_simp
   exact hK.out _ _ (Below.refl _ _) ((HD.out).kept (Keep.ofBelow hJ0)) trivial
  refine AS.sc rfl rfl rfl ?_ ?_
  ·intro k_ u w_ hk hJ hF K hK
   have h22 : PRef ((x.den : Int)) n (u 22) w_ := AS.facts_get hF 22 (by simp)
   have h23 : PRef ((y.den : Int)) n (u 23) w_ := AS.facts_get hF 23 (by simp)
   clear hF
   go_simp
   refine (rmul_fact h22 h23 (by omega) (by omega)).mono ?_
   rintro e w' ⟨v, rfl, hv, hb⟩
   exact hK.out _ _ hb (hv) trivial
  refine AS.sc rfl rfl rfl ?_ ?_
  ·intro k_ u w_ hk hJ hF K hK
   have h21 : PRef ((x.num) * (y.num)) (n + n) (u 21) w_ := AS.facts_get hF 21 (by simp)
   have h24 : PRef (((x.den : Int)) * ((y.den : Int))) (n + n) (u 24) w_ := AS.facts_get hF 24 (by simp)
   clear hF
   go_simp
   refine (rquot_fact (n := (n + n)) (h21.more (by omega)) (h24.more (by omega)) (by omega) (mul_ne (den_ne x) (den_ne y))).mono ?_
   rintro e w' ⟨v, rfl, hv, hb⟩
   exact hK.out _ _ hb (by rw [mul_terms] at hv; exact hv) trivial
  refine AS.ss rfl rfl ?_ ?_
  ·intro u w_ hJ hAp hF K hK
   have h25 : RRat (x * y) (n + n) (u 25) w_ := AS.facts_get hF 25 (by simp)
   clear hF
   obtain ⟨k1, A1, l1, c1, k2, A2, l2, c2, e_⟩ := h25.open
   have hJ0 : Below W17.heap.size W17 w_ := hJ
   have bx := (b4.out).up hJ0
   have hbel := below_then HB18.out hJ0 HB18.out.size
   have y0 := bx.cell 0
   have z0 := bx.frozen 0
   have y1 := bx.cell 1
   have z1 := bx.frozen 1
   have y2 := bx.cell 2
   have z2 := bx.frozen 2
   have y3 := bx.cell 3
   have z3 := bx.frozen 3
   simp only [List.getElem?_cons_zero, List.getElem?_cons_succ] at y0 y1 y2 y3
   simp only [e_] at hK ⊢
   go_simp
   exact hK.out undef _ ⟨⟨(Below.setCell (p := ⟨w.heap.size + 1 + 1, 3, none⟩) (Below.setCell (p := ⟨w.heap.size + 1 + 1, 2, none⟩) (Below.set2 (g := w.heap.size + 1 + 1) hbel (by first | omega | (simp; done) | (simp; omega)) (.bool k1) (.slice A1 l1 c1)) (by first | omega | (simp; done) | (simp; omega)) (.bool k2)) (by first | omega | (simp; done) | (simp; omega)) (.slice A2 l2 c2)), (by simp only [setCell_size]; first | exact hsz | exact Nat.le_trans HB18.out.size hJ0.size)⟩, [.bool k1, .slice A1 l1 c1, .bool k2, .slice A2 l2 c2], by simp [e_], (Bx.set4 bx (Leaf.bool k1) (Leaf.slice A1 l1 c1) (Leaf.bool k2) (Leaf.slice A2 l2 c2))⟩ (Keep.set4 (Keep.refl w_) bx (Leaf.bool k1) (Leaf.slice A1 l1 c1) (Leaf.bool k2) (Leaf.slice A2 l2 c2))
  exact AS.StepsOk.nil
 ·intro u W19 hJ9 hF
  have h25 : RRat (x * y) (n + n) (u 25) W19 := AS.facts_get hF 25 (by simp [rratMulFL, AS.temps])
  clear hF
  obtain ⟨⟨hbel, -⟩, vs, hvs, hbx⟩ := hJ9
  obtain ⟨ka, Aa, la, ca, kb, Ab, lb, cb, ea⟩ := h25.open
  rw [ea] at h25
  obtain rfl : vs = [.bool ka, .slice Aa la ca, .bool kb, .slice Ab lb cb] := by
   have e1 := (List.cons.inj hvs).1
   rw [show u 25 = _ from ea] at e1
   have e2 := congrArg Array.toList (Value.agg.inj e1)
   simpa using e2.symm
  have y0 := hbx.cell 0
  have y1 := hbx.cell 1
  have y2 := hbx.cell 2
  have y3 := hbx.cell 3
  simp only [List.getElem?_cons_zero, List.getElem?_cons_succ] at y0 y1 y2 y3
  go_wp2_with fail
  refine bodyPost_ret (v := .agg #[.bool ka, .slice Aa la ca, .bool kb, .slice Ab lb cb]) (by simp [results, Tryz.results31, go_sem, y0, y1, y2, y3]) rfl ⟨_, rfl, h25, hbel⟩
set_option maxHeartbeats 3200000
set_option maxRecDepth 20000
def rratDivFL (x y : Rat) (n : Nat) : List (Nat × AS.Fact) := [(20, AS.Fact.ref (x.num) n), (21, AS.Fact.ref ((y.den : Int)) n), (22, AS.Fact.ref ((x.num) * ((y.den : Int))) (n + n)), (23, AS.Fact.ref ((x.den : Int)) n), (24, AS.Fact.ref (y.num) n), (25, AS.Fact.ref (((x.den : Int)) * (y.num)) (n + n)), (26, AS.Fact.rrok (x / y) (n + n)), (27, AS.Fact.rrat (x / y) (n + n)), (28, AS.Fact.is (.int .i64 0)), (5, AS.Fact.is (.int .i64 0))]
theorem rratDiv_fact {x y : Rat} {n : Nat} {v v2 : Value} {w : World} (h : RRat x n v w) (h2 : RRat y n v2 w) (hn3 : 5 ≤ n) (hn : n ≤ 4000) (hy : y ≠ 0) :
  Calls Tryz.prog 29 #[v, v2] w fun e w' => ∃ v, e = .returned (.tuple #[v, .int .i64 0]) ∧ RRat (x / y) (n + n) v w' ∧ Below w.heap.size w w' := by
 obtain ⟨k, A, l, c, k', A', l', c', rfl⟩ := h.open
 obtain ⟨r, E, m, d, r', E', m', d', rfl⟩ := h2.open
 have H1 := Lib.hid h
 have H2 := Lib.hid h2
 clear h h2
 go_enter Tryz.func29, Tryz.ntmps29
 go_upto_region 1 with (fail)
 change Code.wp Tryz.prog _ _ _ (((w.alloc (.cells #[.bool k, .slice A l c, .bool k', .slice A' l' c'] 35)).alloc (.cells #[.bool r, .slice E m d, .bool r', .slice E' m' d'] 35)).alloc (.cells #[.bool false, .slice none 0 0, .bool false, .slice none 0 0] 35))
 obtain ⟨nb2, nb3, nb4, na⟩ := new3 w 35 [.bool k, .slice A l c, .bool k', .slice A' l' c'] 35 [.bool r, .slice E m d, .bool r', .slice E' m' d'] 35 [.bool false, .slice none 0 0, .bool false, .slice none 0 0] lf4 lf4 lf4
 have nkeep := Keep.ofBelow na
 have nbel := na
 generalize ((w.alloc (.cells #[.bool k, .slice A l c, .bool k', .slice A' l' c'] 35)).alloc (.cells #[.bool r, .slice E m d, .bool r', .slice E' m' d'] 35)).alloc (.cells #[.bool false, .slice none 0 0, .bool false, .slice none 0 0] 35) = W1 at *
 clear na
 have b2 := Lib.hid nb2
 have b3 := Lib.hid nb3
 have b4 := Lib.hid nb4
 clear nb2 nb3 nb4
 replace H1 := Lib.hid (H1.out.kept nkeep)
 replace H2 := Lib.hid (H2.out.kept nkeep)
 clear nkeep
 have HB2 := Lib.hid nbel
 clear nbel
 obtain ⟨x2_0, x2_1, x2_2, x2_3, s2⟩ := b2.out.d4
 obtain ⟨x3_0, x3_1, x3_2, x3_3, s3⟩ := b3.out.d4
 obtain ⟨x4_0, x4_1, x4_2, x4_3, s4⟩ := b4.out.d4
 have szb := HB2.out.size
 go_wp2_with fail
 refine (rparts_fact H1.out hn3).mono ?_
 rintro e W3 ⟨k1, A1, l1, c1, j1, B1, o1, e1, rfl, ha_, hc_, hb⟩
 replace b2 := hup b2 hb
 replace b3 := hup b3 hb
 replace b4 := hup b4 hb
 replace H1 := Lib.hid (H1.out.kept (Keep.ofBelow hb))
 replace H2 := Lib.hid (H2.out.kept (Keep.ofBelow hb))
 have nbel := below_then HB2.out hb HB2.out.size
 have HB4 := Lib.hid nbel
 clear nbel HB2 hb x2_0 x2_1 x2_2 x2_3 x3_0 x3_1 x3_2 x3_3 x4_0 x4_1 x4_2 x4_3 szb s2 s3 s4
 obtain ⟨x2_0, x2_1, x2_2, x2_3, s2⟩ := b2.out.d4
 obtain ⟨x3_0, x3_1, x3_2, x3_3, s3⟩ := b3.out.d4
 obtain ⟨x4_0, x4_1, x4_2, x4_3, s4⟩ := b4.out.d4
 have szb := HB4.out.size
 have HA := Lib.hid ha_
 have HB := Lib.hid hc_
 clear ha_ hc_
 go_upto_region 2 with (fail)
 have q5 := b2.out.lt
 have q6 := b3.out.lt
 have q7 := b4.out.lt
 change Code.wp Tryz.prog _ _ _ ((W3.alloc (.cells #[.bool k1, .slice A1 l1 c1] 33)).alloc (.cells #[.bool j1, .slice B1 o1 e1] 33))
 obtain ⟨nb6, nb7, na⟩ := new2 W3 33 [.bool k1, .slice A1 l1 c1] 33 [.bool j1, .slice B1 o1 e1] lf2 lf2
 have nb2 := b2.out.up na
 have nb3 := b3.out.up na
 have nb4 := b4.out.up na
 have nkeep := Keep.ofBelow na
 have nbel := below_then HB4.out na HB4.out.size
 generalize (W3.alloc (.cells #[.bool k1, .slice A1 l1 c1] 33)).alloc (.cells #[.bool j1, .slice B1 o1 e1] 33) = W8 at *
 clear na x2_0 x2_1 x2_2 x2_3 x3_0 x3_1 x3_2 x3_3 x4_0 x4_1 x4_2 x4_3 szb s2 s3 s4 b2 b3 b4
 have b2 := Lib.hid nb2
 have b3 := Lib.hid nb3
 have b4 := Lib.hid nb4
 have b6 := Lib.hid nb6
 have b7 := Lib.hid nb7
 clear nb2 nb3 nb4 nb6 nb7
 replace H1 := Lib.hid (H1.out.kept nkeep)
 replace H2 := Lib.hid (H2.out.kept nkeep)
 replace HA := Lib.hid (HA.out.kept nkeep)
 replace HB := Lib.hid (HB.out.kept nkeep)
 clear nkeep
 have HB9 := Lib.hid nbel
 clear nbel HB4
 obtain ⟨x2_0, x2_1, x2_2, x2_3, s2⟩ := b2.out.d4
 obtain ⟨x3_0, x3_1, x3_2, x3_3, s3⟩ := b3.out.d4
 obtain ⟨x4_0, x4_1, x4_2, x4_3, s4⟩ := b4.out.d4
 obtain ⟨x6_0, x6_1, s6⟩ := b6.out.d2
 obtain ⟨x7_0, x7_1, s7⟩ := b7.out.d2
 have szb := HB9.out.size
 go_wp2_with fail
 refine (rparts_fact H2.out hn3).mono ?_
 rintro e W10 ⟨k2, A2, l2, c2, j2, B2, o2, e2, rfl, ha_, hc_, hb⟩
 replace b2 := hup b2 hb
 replace b3 := hup b3 hb
 replace b4 := hup b4 hb
 replace b6 := hup b6 hb
 replace b7 := hup b7 hb
 replace H1 := Lib.hid (H1.out.kept (Keep.ofBelow hb))
 replace H2 := Lib.hid (H2.out.kept (Keep.ofBelow hb))
 replace HA := Lib.hid (HA.out.kept (Keep.ofBelow hb))
 replace HB := Lib.hid (HB.out.kept (Keep.ofBelow hb))
 have nbel := below_then HB9.out hb HB9.out.size
 have HB11 := Lib.hid nbel
 clear nbel HB9 hb x2_0 x2_1 x2_2 x2_3 x3_0 x3_1 x3_2 x3_3 x4_0 x4_1 x4_2 x4_3 x6_0 x6_1 x7_0 x7_1 szb s2 s3 s4 s6 s7
 obtain ⟨x2_0, x2_1, x2_2, x2_3, s2⟩ := b2.out.d4
 obtain ⟨x3_0, x3_1, x3_2, x3_3, s3⟩ := b3.out.d4
 obtain ⟨x4_0, x4_1, x4_2, x4_3, s4⟩ := b4.out.d4
 obtain ⟨x6_0, x6_1, s6⟩ := b6.out.d2
 obtain ⟨x7_0, x7_1, s7⟩ := b7.out.d2
 have szb := HB11.out.size
 have HC := Lib.hid ha_
 have HD := Lib.hid hc_
 clear ha_ hc_
 go_upto_region 3 with (fail)
 have q12 := b2.out.lt
 have q13 := b3.out.lt
 have q14 := b4.out.lt
 have q15 := b6.out.lt
 have q16 := b7.out.lt
 change Code.wp Tryz.prog _ _ _ ((W10.alloc (.cells #[.bool k2, .slice A2 l2 c2] 33)).alloc (.cells #[.bool j2, .slice B2 o2 e2] 33))
 obtain ⟨nb8, nb9, na⟩ := new2 W10 33 [.bool k2, .slice A2 l2 c2] 33 [.bool j2, .slice B2 o2 e2] lf2 lf2
 have nb2 := b2.out.up na
 have nb3 := b3.out.up na
 have nb4 := b4.out.up na
 have nb6 := b6.out.up na
 have nb7 := b7.out.up na
 have nkeep := Keep.ofBelow na
 have nbel := below_then HB11.out na HB11.out.size
 generalize (W10.alloc (.cells #[.bool k2, .slice A2 l2 c2] 33)).alloc (.cells #[.bool j2, .slice B2 o2 e2] 33) = W17 at *
 clear na x2_0 x2_1 x2_2 x2_3 x3_0 x3_1 x3_2 x3_3 x4_0 x4_1 x4_2 x4_3 x6_0 x6_1 x7_0 x7_1 szb s2 s3 s4 s6 s7 b2 b3 b4 b6 b7
 have b2 := Lib.hid nb2
 have b3 := Lib.hid nb3
 have b4 := Lib.hid nb4
 have b6 := Lib.hid nb6
 have b7 := Lib.hid nb7
 have b8 := Lib.hid nb8
 have b9 := Lib.hid nb9
 clear nb2 nb3 nb4 nb6 nb7 nb8 nb9
 replace H1 := Lib.hid (H1.out.kept nkeep)
 replace H2 := Lib.hid (H2.out.kept nkeep)
 replace HA := Lib.hid (HA.out.kept nkeep)
 replace HB := Lib.hid (HB.out.kept nkeep)
 replace HC := Lib.hid (HC.out.kept nkeep)
 replace HD := Lib.hid (HD.out.kept nkeep)
 clear nkeep
 have HB18 := Lib.hid nbel
 clear nbel HB11
 obtain ⟨x2_0, x2_1, x2_2, x2_3, s2⟩ := b2.out.d4
 obtain ⟨x3_0, x3_1, x3_2, x3_3, s3⟩ := b3.out.d4
 obtain ⟨x4_0, x4_1, x4_2, x4_3, s4⟩ := b4.out.d4
 obtain ⟨x6_0, x6_1, s6⟩ := b6.out.d2
 obtain ⟨x7_0, x7_1, s7⟩ := b7.out.d2
 obtain ⟨x8_0, x8_1, s8⟩ := b8.out.d2
 obtain ⟨x9_0, x9_1, s9⟩ := b9.out.d2
 have szb := HB18.out.size
 refine AS.region_facts (rratDivFL x y n) (JRes w W17 35 (w.heap.size + 1 + 1)) [[], [], [20, 21], [], [], [23, 24], [22, 25], [26], [26], [27], [28]] [9] [[], [27]] [0, 0, 1, 0, 0, 1, 1, 1, 1, 1, 1] [] (fun u => by simp only [rratDivFL, AS.temps, List.map_cons, List.map_nil, fillL, List.setIfInBounds_toArray, List.set_cons_zero, List.set_cons_succ]; rfl) (by kernel_rfl) (by kernel_rfl) (JRes.st w W17 35 (w.heap.size + 1 + 1)) (below_drew (Below.refl _ _)) ?_ ?_
 ·refine AS.sc rfl rfl rfl ?_ ?_
  ·intro k_ u w_ hk hJ hF K hK
   clear hF
   obtain rfl : k_ = 0 := Nat.le_zero.1 hk
   have hJ0 : Below W17.heap.size W17 w_ := hJ
   obtain ⟨y0, y1⟩ := ((b6.out).up hJ0).c2
   go_simp
   exact hK.out _ _ (Below.refl _ _) ((HA.out).kept (Keep.ofBelow hJ0)) trivial
  refine AS.sc rfl rfl rfl ?_ ?_
  ·intro k_ u w_ hk hJ hF K hK
   clear hF
   obtain rfl : k_ = 0 := Nat.le_zero.1 hk
   have hJ0 : Below W17.heap.size W17 w_ := hJ
   obtain ⟨y0, y1⟩ := ((b9.out).up hJ0).c2
   go_simp
   exact hK.out _ _ (Below.refl _ _) ((HD.out).kept (Keep.ofBelow hJ0)) trivial
  refine AS.sc rfl rfl rfl ?_ ?_
  ·intro k_ u w_ hk hJ hF K hK
   have h20 : PRef (x.num) n (u 20) w_ := AS.facts_get hF 20 (by simp)
   have h21 : PRef ((y.den : Int)) n (u 21) w_ := AS.facts_get hF 21 (by simp)
   clear hF
   go_simp
   refine (rmul_fact h20 h21 (by omega) (by omega)).mono ?_
   rintro e w' ⟨v, rfl, hv, hb⟩
   exact hK.out _ _ hb (hv) trivial
  refine AS.sc rfl rfl rfl ?_ ?_
  ·intro k_ u w_ hk hJ hF K hK
   clear hF
   obtain rfl : k_ = 0 := Nat.le_zero.1 hk
   have hJ0 : Below W17.heap.size W17 w_ := hJ
   obtain ⟨y0, y1⟩ := ((b7.out).up hJ0).c2
   go_simp
   exact hK.out _ _ (Below.refl _ _) ((HB.out).kept (Keep.ofBelow hJ0)) trivial
  refine AS.sc rfl rfl rfl ?_ ?_
  ·intro k_ u w_ hk hJ hF K hK
   clear hF
   obtain rfl : k_ = 0 := Nat.le_zero.1 hk
   have hJ0 : Below W17.heap.size W17 w_ := hJ
   obtain ⟨y0, y1⟩ := ((b8.out).up hJ0).c2
   go_simp
   exact hK.out _ _ (Below.refl _ _) ((HC.out).kept (Keep.ofBelow hJ0)) trivial
  refine AS.sc rfl rfl rfl ?_ ?_
  ·intro k_ u w_ hk hJ hF K hK
   have h23 : PRef ((x.den : Int)) n (u 23) w_ := AS.facts_get hF 23 (by simp)
   have h24 : PRef (y.num) n (u 24) w_ := AS.facts_get hF 24 (by simp)
   clear hF
   go_simp
   refine (rmul_fact h23 h24 (by omega) (by omega)).mono ?_
   rintro e w' ⟨v, rfl, hv, hb⟩
   exact hK.out _ _ hb (hv) trivial
  refine AS.sc rfl rfl rfl ?_ ?_
  ·intro k_ u w_ hk hJ hF K hK
   have h22 : PRef ((x.num) * ((y.den : Int))) (n + n) (u 22) w_ := AS.facts_get hF 22 (by simp)
   have h25 : PRef (((x.den : Int)) * (y.num)) (n + n) (u 25) w_ := AS.facts_get hF 25 (by simp)
   clear hF
   go_simp
   refine (rnew_ok (n := n + n) h22 h25 (by omega) (mul_ne (den_ne x) (fun h => hy (Rat.num_eq_zero.1 h)))).mono ?_
   rintro e w' ⟨v, rfl, ⟨v0, e0, hv⟩, hb⟩
   exact hK.out _ _ hb (⟨v0, e0, by rw [div_terms] at hv; exact hv⟩) trivial
  refine AS.sc rfl rfl rfl ?_ ?_
  ·intro k_ u w_ hk hJ hF K hK
   have h26 : RRatOk (x / y) (n + n) (u 26) w_ := AS.facts_get hF 26 (by simp)
   clear hF
   obtain ⟨v0, e0, hv0⟩ := h26
   simp only [e0] at hK ⊢
   go_simp
   exact hK.out _ _ (Below.refl _ _) (hv0) trivial
  refine AS.sc rfl rfl rfl ?_ ?_
  ·intro k_ u w_ hk hJ hF K hK
   have h26 : RRatOk (x / y) (n + n) (u 26) w_ := AS.facts_get hF 26 (by simp)
   clear hF
   obtain ⟨v0, e0, hv0⟩ := h26
   simp only [e0] at hK ⊢
   go_simp
   exact hK.out _ _ (Below.refl _ _) (rfl) trivial
  refine AS.ss rfl rfl ?_ ?_
  ·intro u w_ hJ hAp hF K hK
   have h27 : RRat (x / y) (n + n) (u 27) w_ := AS.facts_get hF 27 (by simp)
   clear hF
   obtain ⟨k1, A1, l1, c1, k2, A2, l2, c2, e_⟩ := h27.open
   have hJ0 : Below W17.heap.size W17 w_ := hJ
   have bx := (b4.out).up hJ0
   have hbel := below_then HB18.out hJ0 HB18.out.size
   have y0 := bx.cell 0
   have z0 := bx.frozen 0
   have y1 := bx.cell 1
   have z1 := bx.frozen 1
   have y2 := bx.cell 2
   have z2 := bx.frozen 2
   have y3 := bx.cell 3
   have z3 := bx.frozen 3
   simp only [List.getElem?_cons_zero, List.getElem?_cons_succ] at y0 y1 y2 y3
   simp only [e_] at hK ⊢
   go_simp
   exact hK.out undef _ ⟨⟨(Below.setCell (p := ⟨w.heap.size + 1 + 1, 3, none⟩) (Below.setCell (p := ⟨w.heap.size + 1 + 1, 2, none⟩) (Below.set2 (g := w.heap.size + 1 + 1) hbel (by first | omega | (simp; done) | (simp; omega)) (.bool k1) (.slice A1 l1 c1)) (by first | omega | (simp; done) | (simp; omega)) (.bool k2)) (by first | omega | (simp; done) | (simp; omega)) (.slice A2 l2 c2)), (by simp only [setCell_size]; first | exact hsz | exact Nat.le_trans HB18.out.size hJ0.size)⟩, [.bool k1, .slice A1 l1 c1, .bool k2, .slice A2 l2 c2], by simp [e_], (Bx.set4 bx (Leaf.bool k1) (Leaf.slice A1 l1 c1) (Leaf.bool k2) (Leaf.slice A2 l2 c2))⟩ (Keep.set4 (Keep.refl w_) bx (Leaf.bool k1) (Leaf.slice A1 l1 c1) (Leaf.bool k2) (Leaf.slice A2 l2 c2))
  refine AS.sc rfl rfl rfl ?_ ?_
  ·intro k_ u w_ hk hJ hF K hK
   have h28 : u 28 = .int .i64 0 := AS.facts_get hF 28 (by simp)
   clear hF
   simp only [h28] at hK ⊢
   clear h28
   go_simp
   exact hK.out _ _ (Below.refl _ _) (rfl) trivial
  exact AS.StepsOk.nil
 ·intro u W19 hJ9 hF
  have h27 : RRat (x / y) (n + n) (u 27) W19 := AS.facts_get hF 27 (by simp [rratDivFL, AS.temps])
  have h5 : u 5 = .int .i64 0 := AS.facts_get hF 5 (by simp [rratDivFL, AS.temps])
  clear hF
  rw [show u 5 = _ from h5]
  clear h5
  obtain ⟨⟨hbel, -⟩, vs, hvs, hbx⟩ := hJ9
  obtain ⟨ka, Aa, la, ca, kb, Ab, lb, cb, ea⟩ := h27.open
  rw [ea] at h27
  obtain rfl : vs = [.bool ka, .slice Aa la ca, .bool kb, .slice Ab lb cb] := by
   have e1 := (List.cons.inj hvs).1
   rw [show u 27 = _ from ea] at e1
   have e2 := congrArg Array.toList (Value.agg.inj e1)
   simpa using e2.symm
  have y0 := hbx.cell 0
  have y1 := hbx.cell 1
  have y2 := hbx.cell 2
  have y3 := hbx.cell 3
  simp only [List.getElem?_cons_zero, List.getElem?_cons_succ] at y0 y1 y2 y3
  go_wp2_with fail
  refine bodyPost_ret (v := .tuple #[.agg #[.bool ka, .slice Aa la ca, .bool kb, .slice Ab lb cb], .int .i64 0]) (by simp [results, Tryz.results29, go_sem, y0, y1, y2, y3]) rfl ⟨_, rfl, h27, hbel⟩
def rratDiv0FL (x y : Rat) (n : Nat) : List (Nat × AS.Fact) := [(20, AS.Fact.ref (x.num) n), (21, AS.Fact.ref ((y.den : Int)) n), (22, AS.Fact.ref ((x.num) * ((y.den : Int))) (n + n)), (23, AS.Fact.ref ((x.den : Int)) n), (24, AS.Fact.ref (y.num) n), (25, AS.Fact.ref (((x.den : Int)) * (y.num)) (n + n)), (26, AS.Fact.is (.tuple #[.agg #[.bool false, .slice none 0 0, .bool false, .slice none 0 0], .int .i64 10])), (27, AS.Fact.is (.agg #[.bool false, .slice none 0 0, .bool false, .slice none 0 0])), (28, AS.Fact.is (.int .i64 10)), (5, AS.Fact.is (.int .i64 10))]
theorem rratDiv_zero {x y : Rat} {n : Nat} {v v2 : Value} {w : World} (h : RRat x n v w) (h2 : RRat y n v2 w) (hn3 : 5 ≤ n) (hn : n ≤ 4000) (hy : y = 0) :
  Calls Tryz.prog 29 #[v, v2] w fun e w' => e = .returned (.tuple #[.agg #[.bool false, .slice none 0 0, .bool false, .slice none 0 0], .int .i64 10]) ∧ Below w.heap.size w w' := by
 have HY := Lib.hid hy
 clear hy
 obtain ⟨k, A, l, c, k', A', l', c', rfl⟩ := h.open
 obtain ⟨r, E, m, d, r', E', m', d', rfl⟩ := h2.open
 have H1 := Lib.hid h
 have H2 := Lib.hid h2
 clear h h2
 go_enter Tryz.func29, Tryz.ntmps29
 go_upto_region 1 with (fail)
 change Code.wp Tryz.prog _ _ _ (((w.alloc (.cells #[.bool k, .slice A l c, .bool k', .slice A' l' c'] 35)).alloc (.cells #[.bool r, .slice E m d, .bool r', .slice E' m' d'] 35)).alloc (.cells #[.bool false, .slice none 0 0, .bool false, .slice none 0 0] 35))
 obtain ⟨nb2, nb3, nb4, na⟩ := new3 w 35 [.bool k, .slice A l c, .bool k', .slice A' l' c'] 35 [.bool r, .slice E m d, .bool r', .slice E' m' d'] 35 [.bool false, .slice none 0 0, .bool false, .slice none 0 0] lf4 lf4 lf4
 have nkeep := Keep.ofBelow na
 have nbel := na
 generalize ((w.alloc (.cells #[.bool k, .slice A l c, .bool k', .slice A' l' c'] 35)).alloc (.cells #[.bool r, .slice E m d, .bool r', .slice E' m' d'] 35)).alloc (.cells #[.bool false, .slice none 0 0, .bool false, .slice none 0 0] 35) = W1 at *
 clear na
 have b2 := Lib.hid nb2
 have b3 := Lib.hid nb3
 have b4 := Lib.hid nb4
 clear nb2 nb3 nb4
 replace H1 := Lib.hid (H1.out.kept nkeep)
 replace H2 := Lib.hid (H2.out.kept nkeep)
 clear nkeep
 have HB2 := Lib.hid nbel
 clear nbel
 obtain ⟨x2_0, x2_1, x2_2, x2_3, s2⟩ := b2.out.d4
 obtain ⟨x3_0, x3_1, x3_2, x3_3, s3⟩ := b3.out.d4
 obtain ⟨x4_0, x4_1, x4_2, x4_3, s4⟩ := b4.out.d4
 have szb := HB2.out.size
 go_wp2_with fail
 refine (rparts_fact H1.out hn3).mono ?_
 rintro e W3 ⟨k1, A1, l1, c1, j1, B1, o1, e1, rfl, ha_, hc_, hb⟩
 replace b2 := hup b2 hb
 replace b3 := hup b3 hb
 replace b4 := hup b4 hb
 replace H1 := Lib.hid (H1.out.kept (Keep.ofBelow hb))
 replace H2 := Lib.hid (H2.out.kept (Keep.ofBelow hb))
 have nbel := below_then HB2.out hb HB2.out.size
 have HB4 := Lib.hid nbel
 clear nbel HB2 hb x2_0 x2_1 x2_2 x2_3 x3_0 x3_1 x3_2 x3_3 x4_0 x4_1 x4_2 x4_3 szb s2 s3 s4
 obtain ⟨x2_0, x2_1, x2_2, x2_3, s2⟩ := b2.out.d4
 obtain ⟨x3_0, x3_1, x3_2, x3_3, s3⟩ := b3.out.d4
 obtain ⟨x4_0, x4_1, x4_2, x4_3, s4⟩ := b4.out.d4
 have szb := HB4.out.size
 have HA := Lib.hid ha_
 have HB := Lib.hid hc_
 clear ha_ hc_
 go_upto_region 2 with (fail)
 have q5 := b2.out.lt
 have q6 := b3.out.lt
 have q7 := b4.out.lt
 change Code.wp Tryz.prog _ _ _ ((W3.alloc (.cells #[.bool k1, .slice A1 l1 c1] 33)).alloc (.cells #[.bool j1, .slice B1 o1 e1] 33))
 obtain ⟨nb6, nb7, na⟩ := new2 W3 33 [.bool k1, .slice A1 l1 c1] 33 [.bool j1, .slice B1 o1 e1] lf2 lf2
 have nb2 := b2.out.up na
 have nb3 := b3.out.up na
 have nb4 := b4.out.up na
 have nkeep := Keep.ofBelow na
 have nbel := below_then HB4.out na HB4.out.size
 generalize (W3.alloc (.cells #[.bool k1, .slice A1 l1 c1] 33)).alloc (.cells #[.bool j1, .slice B1 o1 e1] 33) = W8 at *
 clear na x2_0 x2_1 x2_2 x2_3 x3_0 x3_1 x3_2 x3_3 x4_0 x4_1 x4_2 x4_3 szb s2 s3 s4 b2 b3 b4
 have b2 := Lib.hid nb2
 have b3 := Lib.hid nb3
 have b4 := Lib.hid nb4
 have b6 := Lib.hid nb6
 have b7 := Lib.hid nb7
 clear nb2 nb3 nb4 nb6 nb7
 replace H1 := Lib.hid (H1.out.kept nkeep)
 replace H2 := Lib.hid (H2.out.kept nkeep)
 replace HA := Lib.hid (HA.out.kept nkeep)
 replace HB := Lib.hid (HB.out.kept nkeep)
 clear nkeep
 have HB9 := Lib.hid nbel
 clear nbel HB4
 obtain ⟨x2_0, x2_1, x2_2, x2_3, s2⟩ := b2.out.d4
 obtain ⟨x3_0, x3_1, x3_2, x3_3, s3⟩ := b3.out.d4
 obtain ⟨x4_0, x4_1, x4_2, x4_3, s4⟩ := b4.out.d4
 obtain ⟨x6_0, x6_1, s6⟩ := b6.out.d2
 obtain ⟨x7_0, x7_1, s7⟩ := b7.out.d2
 have szb := HB9.out.size
 go_wp2_with fail
 refine (rparts_fact H2.out hn3).mono ?_
 rintro e W10 ⟨k2, A2, l2, c2, j2, B2, o2, e2, rfl, ha_, hc_, hb⟩
 replace b2 := hup b2 hb
 replace b3 := hup b3 hb
 replace b4 := hup b4 hb
 replace b6 := hup b6 hb
 replace b7 := hup b7 hb
 replace H1 := Lib.hid (H1.out.kept (Keep.ofBelow hb))
 replace H2 := Lib.hid (H2.out.kept (Keep.ofBelow hb))
 replace HA := Lib.hid (HA.out.kept (Keep.ofBelow hb))
 replace HB := Lib.hid (HB.out.kept (Keep.ofBelow hb))
 have nbel := below_then HB9.out hb HB9.out.size
 have HB11 := Lib.hid nbel
 clear nbel HB9 hb x2_0 x2_1 x2_2 x2_3 x3_0 x3_1 x3_2 x3_3 x4_0 x4_1 x4_2 x4_3 x6_0 x6_1 x7_0 x7_1 szb s2 s3 s4 s6 s7
 obtain ⟨x2_0, x2_1, x2_2, x2_3, s2⟩ := b2.out.d4
 obtain ⟨x3_0, x3_1, x3_2, x3_3, s3⟩ := b3.out.d4
 obtain ⟨x4_0, x4_1, x4_2, x4_3, s4⟩ := b4.out.d4
 obtain ⟨x6_0, x6_1, s6⟩ := b6.out.d2
 obtain ⟨x7_0, x7_1, s7⟩ := b7.out.d2
 have szb := HB11.out.size
 have HC := Lib.hid ha_
 have HD := Lib.hid hc_
 clear ha_ hc_
 go_upto_region 3 with (fail)
 have q12 := b2.out.lt
 have q13 := b3.out.lt
 have q14 := b4.out.lt
 have q15 := b6.out.lt
 have q16 := b7.out.lt
 change Code.wp Tryz.prog _ _ _ ((W10.alloc (.cells #[.bool k2, .slice A2 l2 c2] 33)).alloc (.cells #[.bool j2, .slice B2 o2 e2] 33))
 obtain ⟨nb8, nb9, na⟩ := new2 W10 33 [.bool k2, .slice A2 l2 c2] 33 [.bool j2, .slice B2 o2 e2] lf2 lf2
 have nb2 := b2.out.up na
 have nb3 := b3.out.up na
 have nb4 := b4.out.up na
 have nb6 := b6.out.up na
 have nb7 := b7.out.up na
 have nkeep := Keep.ofBelow na
 have nbel := below_then HB11.out na HB11.out.size
 generalize (W10.alloc (.cells #[.bool k2, .slice A2 l2 c2] 33)).alloc (.cells #[.bool j2, .slice B2 o2 e2] 33) = W17 at *
 clear na x2_0 x2_1 x2_2 x2_3 x3_0 x3_1 x3_2 x3_3 x4_0 x4_1 x4_2 x4_3 x6_0 x6_1 x7_0 x7_1 szb s2 s3 s4 s6 s7 b2 b3 b4 b6 b7
 have b2 := Lib.hid nb2
 have b3 := Lib.hid nb3
 have b4 := Lib.hid nb4
 have b6 := Lib.hid nb6
 have b7 := Lib.hid nb7
 have b8 := Lib.hid nb8
 have b9 := Lib.hid nb9
 clear nb2 nb3 nb4 nb6 nb7 nb8 nb9
 replace H1 := Lib.hid (H1.out.kept nkeep)
 replace H2 := Lib.hid (H2.out.kept nkeep)
 replace HA := Lib.hid (HA.out.kept nkeep)
 replace HB := Lib.hid (HB.out.kept nkeep)
 replace HC := Lib.hid (HC.out.kept nkeep)
 replace HD := Lib.hid (HD.out.kept nkeep)
 clear nkeep
 have HB18 := Lib.hid nbel
 clear nbel HB11
 obtain ⟨x2_0, x2_1, x2_2, x2_3, s2⟩ := b2.out.d4
 obtain ⟨x3_0, x3_1, x3_2, x3_3, s3⟩ := b3.out.d4
 obtain ⟨x4_0, x4_1, x4_2, x4_3, s4⟩ := b4.out.d4
 obtain ⟨x6_0, x6_1, s6⟩ := b6.out.d2
 obtain ⟨x7_0, x7_1, s7⟩ := b7.out.d2
 obtain ⟨x8_0, x8_1, s8⟩ := b8.out.d2
 obtain ⟨x9_0, x9_1, s9⟩ := b9.out.d2
 have szb := HB18.out.size
 refine AS.region_facts (rratDiv0FL x y n) (JRes w W17 35 (w.heap.size + 1 + 1)) [[], [], [20, 21], [], [], [23, 24], [22, 25], [26], [26], [27], [28]] [9] [[], [27]] [0, 0, 1, 0, 0, 1, 1, 1, 1, 1, 1] [] (fun u => by simp only [rratDiv0FL, AS.temps, List.map_cons, List.map_nil, fillL, List.setIfInBounds_toArray, List.set_cons_zero, List.set_cons_succ]; rfl) (by kernel_rfl) (by kernel_rfl) (JRes.st w W17 35 (w.heap.size + 1 + 1)) (below_drew (Below.refl _ _)) ?_ ?_
 ·refine AS.sc rfl rfl rfl ?_ ?_
  ·intro k_ u w_ hk hJ hF K hK
   clear hF
   obtain rfl : k_ = 0 := Nat.le_zero.1 hk
   have hJ0 : Below W17.heap.size W17 w_ := hJ
   obtain ⟨y0, y1⟩ := ((b6.out).up hJ0).c2
   go_simp
   exact hK.out _ _ (Below.refl _ _) ((HA.out).kept (Keep.ofBelow hJ0)) trivial
  refine AS.sc rfl rfl rfl ?_ ?_
  ·intro k_ u w_ hk hJ hF K hK
   clear hF
   obtain rfl : k_ = 0 := Nat.le_zero.1 hk
   have hJ0 : Below W17.heap.size W17 w_ := hJ
   obtain ⟨y0, y1⟩ := ((b9.out).up hJ0).c2
   go_simp
   exact hK.out _ _ (Below.refl _ _) ((HD.out).kept (Keep.ofBelow hJ0)) trivial
  refine AS.sc rfl rfl rfl ?_ ?_
  ·intro k_ u w_ hk hJ hF K hK
   have h20 : PRef (x.num) n (u 20) w_ := AS.facts_get hF 20 (by simp)
   have h21 : PRef ((y.den : Int)) n (u 21) w_ := AS.facts_get hF 21 (by simp)
   clear hF
   go_simp
   refine (rmul_fact h20 h21 (by omega) (by omega)).mono ?_
   rintro e w' ⟨v, rfl, hv, hb⟩
   exact hK.out _ _ hb (hv) trivial
  refine AS.sc rfl rfl rfl ?_ ?_
  ·intro k_ u w_ hk hJ hF K hK
   clear hF
   obtain rfl : k_ = 0 := Nat.le_zero.1 hk
   have hJ0 : Below W17.heap.size W17 w_ := hJ
   obtain ⟨y0, y1⟩ := ((b7.out).up hJ0).c2
   go_simp
   exact hK.out _ _ (Below.refl _ _) ((HB.out).kept (Keep.ofBelow hJ0)) trivial
  refine AS.sc rfl rfl rfl ?_ ?_
  ·intro k_ u w_ hk hJ hF K hK
   clear hF
   obtain rfl : k_ = 0 := Nat.le_zero.1 hk
   have hJ0 : Below W17.heap.size W17 w_ := hJ
   obtain ⟨y0, y1⟩ := ((b8.out).up hJ0).c2
   go_simp
   exact hK.out _ _ (Below.refl _ _) ((HC.out).kept (Keep.ofBelow hJ0)) trivial
  refine AS.sc rfl rfl rfl ?_ ?_
  ·intro k_ u w_ hk hJ hF K hK
   have h23 : PRef ((x.den : Int)) n (u 23) w_ := AS.facts_get hF 23 (by simp)
   have h24 : PRef (y.num) n (u 24) w_ := AS.facts_get hF 24 (by simp)
   clear hF
   go_simp
   refine (rmul_fact h23 h24 (by omega) (by omega)).mono ?_
   rintro e w' ⟨v, rfl, hv, hb⟩
   exact hK.out _ _ hb (hv) trivial
  refine AS.sc rfl rfl rfl ?_ ?_
  ·intro k_ u w_ hk hJ hF K hK
   have h22 : PRef ((x.num) * ((y.den : Int))) (n + n) (u 22) w_ := AS.facts_get hF 22 (by simp)
   have h25 : PRef (((x.den : Int)) * (y.num)) (n + n) (u 25) w_ := AS.facts_get hF 25 (by simp)
   clear hF
   go_simp
   refine (rnew_zero2 h22 h25 (by rw [HY.out]; simp)).mono ?_
   rintro e w' ⟨rfl, hb⟩
   exact hK.out _ _ hb (rfl) trivial
  refine AS.sc rfl rfl rfl ?_ ?_
  ·intro k_ u w_ hk hJ hF K hK
   have h26 : u 26 = .tuple #[.agg #[.bool false, .slice none 0 0, .bool false, .slice none 0 0], .int .i64 10] := AS.facts_get hF 26 (by simp)
   clear hF
   simp only [h26] at hK ⊢
   clear h26
   go_simp
   exact hK.out _ _ (Below.refl _ _) (rfl) trivial
  refine AS.sc rfl rfl rfl ?_ ?_
  ·intro k_ u w_ hk hJ hF K hK
   have h26 : u 26 = .tuple #[.agg #[.bool false, .slice none 0 0, .bool false, .slice none 0 0], .int .i64 10] := AS.facts_get hF 26 (by simp)
   clear hF
   simp only [h26] at hK ⊢
   clear h26
   go_simp
   exact hK.out _ _ (Below.refl _ _) (rfl) trivial
  refine AS.ss rfl rfl ?_ ?_
  ·intro u w_ hJ hAp hF K hK
   have h27 : u 27 = .agg #[.bool false, .slice none 0 0, .bool false, .slice none 0 0] := AS.facts_get hF 27 (by simp)
   clear hF
   have e_ := h27
   have hJ0 : Below W17.heap.size W17 w_ := hJ
   have bx := (b4.out).up hJ0
   have hbel := below_then HB18.out hJ0 HB18.out.size
   have y0 := bx.cell 0
   have z0 := bx.frozen 0
   have y1 := bx.cell 1
   have z1 := bx.frozen 1
   have y2 := bx.cell 2
   have z2 := bx.frozen 2
   have y3 := bx.cell 3
   have z3 := bx.frozen 3
   simp only [List.getElem?_cons_zero, List.getElem?_cons_succ] at y0 y1 y2 y3
   simp only [e_] at hK ⊢
   go_simp
   exact hK.out undef _ ⟨⟨(Below.setCell (p := ⟨w.heap.size + 1 + 1, 3, none⟩) (Below.setCell (p := ⟨w.heap.size + 1 + 1, 2, none⟩) (Below.set2 (g := w.heap.size + 1 + 1) hbel (by first | omega | (simp; done) | (simp; omega)) (.bool false) (.slice none 0 0)) (by first | omega | (simp; done) | (simp; omega)) (.bool false)) (by first | omega | (simp; done) | (simp; omega)) (.slice none 0 0)), (by simp only [setCell_size]; first | exact hsz | exact Nat.le_trans HB18.out.size hJ0.size)⟩, [.bool false, .slice none 0 0, .bool false, .slice none 0 0], by simp [e_], (Bx.set4 bx (Leaf.bool false) (Leaf.slice none 0 0) (Leaf.bool false) (Leaf.slice none 0 0))⟩ (Keep.set4 (Keep.refl w_) bx (Leaf.bool false) (Leaf.slice none 0 0) (Leaf.bool false) (Leaf.slice none 0 0))
  refine AS.sc rfl rfl rfl ?_ ?_
  ·intro k_ u w_ hk hJ hF K hK
   have h28 : u 28 = .int .i64 10 := AS.facts_get hF 28 (by simp)
   clear hF
   simp only [h28] at hK ⊢
   clear h28
   go_simp
   exact hK.out _ _ (Below.refl _ _) (rfl) trivial
  exact AS.StepsOk.nil
 ·intro u W19 hJ9 hF
  have h27 : u 27 = .agg #[.bool false, .slice none 0 0, .bool false, .slice none 0 0] := AS.facts_get hF 27 (by simp [rratDiv0FL, AS.temps])
  have h5 : u 5 = .int .i64 10 := AS.facts_get hF 5 (by simp [rratDiv0FL, AS.temps])
  clear hF
  obtain ⟨⟨hbel, -⟩, vs, hvs, hbx⟩ := hJ9
  obtain rfl : vs = [.bool false, .slice none 0 0, .bool false, .slice none 0 0] := by
   have e1 := (List.cons.inj hvs).1
   rw [show u 27 = _ from h27] at e1
   have e2 := congrArg Array.toList (Value.agg.inj e1)
   simpa using e2.symm
  have y0 := hbx.cell 0
  have y1 := hbx.cell 1
  have y2 := hbx.cell 2
  have y3 := hbx.cell 3
  simp only [List.getElem?_cons_zero, List.getElem?_cons_succ] at y0 y1 y2 y3
  rw [show u 5 = _ from h5]
  clear h5
  go_wp2_with fail
  refine bodyPost_ret (v := .tuple #[.agg #[.bool false, .slice none 0 0, .bool false, .slice none 0 0], .int .i64 10]) (by simp [results, Tryz.results29, go_sem, y0, y1, y2, y3]) rfl ⟨rfl, hbel⟩
def prodFL0 (x y : Rat) : List (Nat × AS.Fact) := [(39, AS.Fact.rat (x) 223), (40, AS.Fact.rat (y) 223), (41, AS.Fact.rat (x * y) 447), (42, AS.Fact.rrat (x) 500), (43, AS.Fact.rrat (y) 500), (44, AS.Fact.rrat (x * y) 1000), (45, AS.Fact.is (.bool true)), (46, AS.Fact.is (.bool true)), (47, AS.Fact.is (.int .i64 10)), (48, AS.Fact.is (.int .i64 10)), (49, AS.Fact.is (.bool true)), (50, AS.Fact.is (.bool true)), (51, AS.Fact.is (.bool true)), (52, AS.Fact.rat (0) 447), (53, AS.Fact.rrat (0) 1000), (54, AS.Fact.is (.bool true)), (55, AS.Fact.is (.bool true)), (4, AS.Fact.is (.bool true))]
def prodFL (x y : Rat) : List (Nat × AS.Fact) := [(39, AS.Fact.rat (x) 223), (40, AS.Fact.rat (y) 223), (41, AS.Fact.rat (x * y) 447), (42, AS.Fact.rrat (x) 500), (43, AS.Fact.rrat (y) 500), (44, AS.Fact.rrat (x * y) 1000), (45, AS.Fact.is (.bool true)), (46, AS.Fact.is (.bool true)), (47, AS.Fact.is (.int .i64 0)), (48, AS.Fact.is (.int .i64 0)), (49, AS.Fact.is (.bool true)), (50, AS.Fact.is (.bool true)), (51, AS.Fact.is (.bool true)), (52, AS.Fact.rat (x / y) 447), (53, AS.Fact.rrat (x / y) 1000), (54, AS.Fact.is (.bool true)), (55, AS.Fact.is (.bool true)), (4, AS.Fact.is (.bool true))]
set_option maxRecDepth 20000 in
set_option maxHeartbeats 6400000 in
theorem law_products2 (s t : ByteArray) (w : World) (hm : MaxOk w) (ht : Tab w.heap.size w) :
  Calls Tryz.prog 5 #[.string s, .string t] w fun e w' => e = .returned (.bool true) ∧ Below w.heap.size w w' := by
 have HM := Lib.hid hm
 have HT := Lib.hid ht
 clear hm ht
 go_enter Tryz.func5, Tryz.ntmps5
 go_wp2_with fail
 refine (awake_fact HT.out).mono ?_
 rintro e W1 ⟨rfl, hb⟩
 have nbel := hb
 have HB2 := Lib.hid nbel
 clear nbel hb
 have szb := HB2.out.size
 go_wp2_with fail
 refine (both_fact s t _ (HM.out.up HB2.out)).mono ?_
 rintro e W3 ⟨k1, A1, l1, c1, m1, E1, p1, q1, k2, A2, l2, c2, m2, E2, p2, q2, k3, A3, l3, c3, m3, E3, p3, q3, k4, A4, l4, c4, m4, E4, p4, q4, ok, rfl, hv, hb⟩
 have nbel := below_then HB2.out hb HB2.out.size
 have HB4 := Lib.hid nbel
 clear nbel HB2 hb szb
 have szb := HB4.out.size
 generalize ratV s.data.toList = x at hv
 generalize ratV t.data.toList = y at hv
 have HB0 := Lib.hid (OkP.mk hv)
 clear hv
 go_upto_region 4 with (fail)
 change Code.wp Tryz.prog _ _ _ ((((W3.alloc (.cells #[.bool k1, .slice A1 l1 c1, .bool m1, .slice E1 p1 q1] 27)).alloc (.cells #[.bool k2, .slice A2 l2 c2, .bool m2, .slice E2 p2 q2] 27)).alloc (.cells #[.bool k3, .slice A3 l3 c3, .bool m3, .slice E3 p3 q3] 35)).alloc (.cells #[.bool k4, .slice A4 l4 c4, .bool m4, .slice E4 p4 q4] 35))
 obtain ⟨nb5, nb6, nb7, nb8, na⟩ := new4 W3 27 [.bool k1, .slice A1 l1 c1, .bool m1, .slice E1 p1 q1] 27 [.bool k2, .slice A2 l2 c2, .bool m2, .slice E2 p2 q2] 35 [.bool k3, .slice A3 l3 c3, .bool m3, .slice E3 p3 q3] 35 [.bool k4, .slice A4 l4 c4, .bool m4, .slice E4 p4 q4] lf4 lf4 lf4 lf4
 have nkeep := Keep.ofBelow na
 have nbel := below_then HB4.out na HB4.out.size
 generalize (((W3.alloc (.cells #[.bool k1, .slice A1 l1 c1, .bool m1, .slice E1 p1 q1] 27)).alloc (.cells #[.bool k2, .slice A2 l2 c2, .bool m2, .slice E2 p2 q2] 27)).alloc (.cells #[.bool k3, .slice A3 l3 c3, .bool m3, .slice E3 p3 q3] 35)).alloc (.cells #[.bool k4, .slice A4 l4 c4, .bool m4, .slice E4 p4 q4] 35) = W5 at *
 clear na szb
 have b5 := Lib.hid nb5
 have b6 := Lib.hid nb6
 have b7 := Lib.hid nb7
 have b8 := Lib.hid nb8
 clear nb5 nb6 nb7 nb8
 replace HB0 := Lib.hid (HB0.out.kept nkeep)
 clear nkeep
 have HB6 := Lib.hid nbel
 clear nbel HB4
 obtain ⟨x50, x51, x52, x53, s5⟩ := b5.out.d4
 obtain ⟨x60, x61, x62, x63, s6⟩ := b6.out.d4
 obtain ⟨x70, x71, x72, x73, s7⟩ := b7.out.d4
 obtain ⟨x80, x81, x82, x83, s8⟩ := b8.out.d4
 have szb := HB6.out.size
 cases ok with
 | false =>
  go_wp2_with fail
  have hkeep := (Keep.refl W5)
  have hbel := HB6.out
  refine bodyPost_ret (v := .bool true) (by simp [results, Tryz.results5, go_sem]) rfl ⟨rfl, hbel⟩
 | true =>
  have hh := HB0.out.go rfl
  have HX := Lib.hid hh.1
  have HY := Lib.hid hh.2.1
  have HA := Lib.hid hh.2.2.1
  have HB := Lib.hid hh.2.2.2
  clear hh HB0
  by_cases hy : y = 0
  ·have HY0 := Lib.hid hy
   clear hy
   go_wp2_with fail
   refine (ratDiv_zero HX.out HY.out (by decide) (by decide) HY0.out).mono ?_
   rintro e W7 ⟨rfl, hb⟩
   replace b5 := hup b5 hb
   replace b6 := hup b6 hb
   replace b7 := hup b7 hb
   replace b8 := hup b8 hb
   replace HX := Lib.hid (HX.out.kept (Keep.ofBelow hb))
   replace HY := Lib.hid (HY.out.kept (Keep.ofBelow hb))
   replace HA := Lib.hid (HA.out.kept (Keep.ofBelow hb))
   replace HB := Lib.hid (HB.out.kept (Keep.ofBelow hb))
   have nbel := below_then HB6.out hb HB6.out.size
   have HB8 := Lib.hid nbel
   clear nbel HB6 hb x50 x51 x52 x53 x60 x61 x62 x63 x70 x71 x72 x73 x80 x81 x82 x83 szb s5 s6 s7 s8
   obtain ⟨x50, x51, x52, x53, s5⟩ := b5.out.d4
   obtain ⟨x60, x61, x62, x63, s6⟩ := b6.out.d4
   obtain ⟨x70, x71, x72, x73, s7⟩ := b7.out.d4
   obtain ⟨x80, x81, x82, x83, s8⟩ := b8.out.d4
   have szb := HB8.out.size
   go_upto_region 7 with (fail)
   have q9 := b5.out.lt
   have q10 := b6.out.lt
   have q11 := b7.out.lt
   have q12 := b8.out.lt
   change Code.wp Tryz.prog _ _ _ (W7.alloc (.cells #[.bool false, .slice none 0 0, .bool false, .slice none 0 0] 27))
   obtain ⟨nb10, na⟩ := new1 W7 27 [.bool false, .slice none 0 0, .bool false, .slice none 0 0] lf4
   have nb5 := b5.out.up na
   have nb6 := b6.out.up na
   have nb7 := b7.out.up na
   have nb8 := b8.out.up na
   have nkeep := Keep.ofBelow na
   have nbel := below_then HB8.out na HB8.out.size
   generalize W7.alloc (.cells #[.bool false, .slice none 0 0, .bool false, .slice none 0 0] 27) = W13 at *
   clear na x50 x51 x52 x53 x60 x61 x62 x63 x70 x71 x72 x73 x80 x81 x82 x83 szb s5 s6 s7 s8 b5 b6 b7 b8
   have b5 := Lib.hid nb5
   have b6 := Lib.hid nb6
   have b7 := Lib.hid nb7
   have b8 := Lib.hid nb8
   have b10 := Lib.hid nb10
   clear nb5 nb6 nb7 nb8 nb10
   replace HX := Lib.hid (HX.out.kept nkeep)
   replace HY := Lib.hid (HY.out.kept nkeep)
   replace HA := Lib.hid (HA.out.kept nkeep)
   replace HB := Lib.hid (HB.out.kept nkeep)
   clear nkeep
   have HB14 := Lib.hid nbel
   clear nbel HB8
   obtain ⟨x50, x51, x52, x53, s5⟩ := b5.out.d4
   obtain ⟨x60, x61, x62, x63, s6⟩ := b6.out.d4
   obtain ⟨x70, x71, x72, x73, s7⟩ := b7.out.d4
   obtain ⟨x80, x81, x82, x83, s8⟩ := b8.out.d4
   obtain ⟨x100, x101, x102, x103, s10⟩ := b10.out.d4
   have szb := HB14.out.size
   go_wp2_with fail
   refine (rratDiv_zero HA.out HB.out (by decide) (by decide) HY0.out).mono ?_
   rintro e W15 ⟨rfl, hb⟩
   replace b5 := hup b5 hb
   replace b6 := hup b6 hb
   replace b7 := hup b7 hb
   replace b8 := hup b8 hb
   replace b10 := hup b10 hb
   replace HX := Lib.hid (HX.out.kept (Keep.ofBelow hb))
   replace HY := Lib.hid (HY.out.kept (Keep.ofBelow hb))
   replace HA := Lib.hid (HA.out.kept (Keep.ofBelow hb))
   replace HB := Lib.hid (HB.out.kept (Keep.ofBelow hb))
   have nbel := below_then HB14.out hb HB14.out.size
   have HB16 := Lib.hid nbel
   clear nbel HB14 hb x50 x51 x52 x53 x60 x61 x62 x63 x70 x71 x72 x73 x80 x81 x82 x83 x100 x101 x102 x103 szb s5 s6 s7 s8 s10
   obtain ⟨x50, x51, x52, x53, s5⟩ := b5.out.d4
   obtain ⟨x60, x61, x62, x63, s6⟩ := b6.out.d4
   obtain ⟨x70, x71, x72, x73, s7⟩ := b7.out.d4
   obtain ⟨x80, x81, x82, x83, s8⟩ := b8.out.d4
   obtain ⟨x100, x101, x102, x103, s10⟩ := b10.out.d4
   have szb := HB16.out.size
   go_upto_region 8 with (fail)
   have q17 := b5.out.lt
   have q18 := b6.out.lt
   have q19 := b7.out.lt
   have q20 := b8.out.lt
   have q21 := b10.out.lt
   change Code.wp Tryz.prog _ _ _ (W15.alloc (.cells #[.bool false, .slice none 0 0, .bool false, .slice none 0 0] 35))
   obtain ⟨nb12, na⟩ := new1 W15 35 [.bool false, .slice none 0 0, .bool false, .slice none 0 0] lf4
   have nb5 := b5.out.up na
   have nb6 := b6.out.up na
   have nb7 := b7.out.up na
   have nb8 := b8.out.up na
   have nb10 := b10.out.up na
   have nkeep := Keep.ofBelow na
   have nbel := below_then HB16.out na HB16.out.size
   generalize W15.alloc (.cells #[.bool false, .slice none 0 0, .bool false, .slice none 0 0] 35) = W22 at *
   clear na x50 x51 x52 x53 x60 x61 x62 x63 x70 x71 x72 x73 x80 x81 x82 x83 x100 x101 x102 x103 szb s5 s6 s7 s8 s10 b5 b6 b7 b8 b10
   have b5 := Lib.hid nb5
   have b6 := Lib.hid nb6
   have b7 := Lib.hid nb7
   have b8 := Lib.hid nb8
   have b10 := Lib.hid nb10
   have b12 := Lib.hid nb12
   clear nb5 nb6 nb7 nb8 nb10 nb12
   replace HX := Lib.hid (HX.out.kept nkeep)
   replace HY := Lib.hid (HY.out.kept nkeep)
   replace HA := Lib.hid (HA.out.kept nkeep)
   replace HB := Lib.hid (HB.out.kept nkeep)
   clear nkeep
   have HB23 := Lib.hid nbel
   clear nbel HB16
   obtain ⟨x50, x51, x52, x53, s5⟩ := b5.out.d4
   obtain ⟨x60, x61, x62, x63, s6⟩ := b6.out.d4
   obtain ⟨x70, x71, x72, x73, s7⟩ := b7.out.d4
   obtain ⟨x80, x81, x82, x83, s8⟩ := b8.out.d4
   obtain ⟨x100, x101, x102, x103, s10⟩ := b10.out.d4
   obtain ⟨x120, x121, x122, x123, s12⟩ := b12.out.d4
   have szb := HB23.out.size
   have HTW := Lib.hid (tab_up HT.out HB23.out)
   refine AS.region_facts (prodFL0 x y) (JNo W22) [[], [], [39, 40], [], [], [42, 43], [41, 44], [45], [46], [46], [46, 47, 48], [46, 49], [50], [51], [51], [51, 52, 53], [51, 54], [55]] [] [[]] [0, 0, 0, 0, 0, 0, 0, 0, 0, 0, 0, 0, 0, 0, 0, 0, 0, 0] [] (fun u => by simp only [prodFL0, AS.temps, List.map_cons, List.map_nil, fillL, List.setIfInBounds_toArray, List.set_cons_zero, List.set_cons_succ]; rfl) (by kernel_rfl) (by kernel_rfl) (JNo.st W22) (below_drew (Below.refl _ _)) ?_ ?_
   ·refine AS.sc rfl rfl rfl ?_ ?_
    ·intro k_ u w_ hk hJ hF K hK
     clear hF
     obtain rfl : k_ = 0 := Nat.le_zero.1 hk
     have hJ0 : Below W22.heap.size W22 w_ := hJ
     obtain ⟨y0, y1, y2, y3⟩ := ((b5.out).up hJ0).c4
     go_simp
     exact hK.out _ _ (Below.refl _ _) ((HX.out).kept (Keep.ofBelow hJ0)) trivial
    refine AS.sc rfl rfl rfl ?_ ?_
    ·intro k_ u w_ hk hJ hF K hK
     clear hF
     obtain rfl : k_ = 0 := Nat.le_zero.1 hk
     have hJ0 : Below W22.heap.size W22 w_ := hJ
     obtain ⟨y0, y1, y2, y3⟩ := ((b6.out).up hJ0).c4
     go_simp
     exact hK.out _ _ (Below.refl _ _) ((HY.out).kept (Keep.ofBelow hJ0)) trivial
    refine AS.sc rfl rfl rfl ?_ ?_
    ·intro k_ u w_ hk hJ hF K hK
     have h39 : PRat (x) 223 (u 39) w_ := AS.facts_get hF 39 (by simp)
     have h40 : PRat (y) 223 (u 40) w_ := AS.facts_get hF 40 (by simp)
     clear hF
     go_simp
     refine (ratMul_fact (n := 223) (h39.more (by decide)) (h40.more (by decide)) (by decide) (by decide)).mono ?_
     rintro e w' ⟨v, rfl, hv, hb⟩
     exact hK.out _ _ hb (hv) trivial
    refine AS.sc rfl rfl rfl ?_ ?_
    ·intro k_ u w_ hk hJ hF K hK
     clear hF
     obtain rfl : k_ = 0 := Nat.le_zero.1 hk
     have hJ0 : Below W22.heap.size W22 w_ := hJ
     obtain ⟨y0, y1, y2, y3⟩ := ((b7.out).up hJ0).c4
     go_simp
     exact hK.out _ _ (Below.refl _ _) ((HA.out).kept (Keep.ofBelow hJ0)) trivial
    refine AS.sc rfl rfl rfl ?_ ?_
    ·intro k_ u w_ hk hJ hF K hK
     clear hF
     obtain rfl : k_ = 0 := Nat.le_zero.1 hk
     have hJ0 : Below W22.heap.size W22 w_ := hJ
     obtain ⟨y0, y1, y2, y3⟩ := ((b8.out).up hJ0).c4
     go_simp
     exact hK.out _ _ (Below.refl _ _) ((HB.out).kept (Keep.ofBelow hJ0)) trivial
    refine AS.sc rfl rfl rfl ?_ ?_
    ·intro k_ u w_ hk hJ hF K hK
     have h42 : RRat (x) 500 (u 42) w_ := AS.facts_get hF 42 (by simp)
     have h43 : RRat (y) 500 (u 43) w_ := AS.facts_get hF 43 (by simp)
     clear hF
     go_simp
     refine (rratMul_fact h42 h43 (by decide) (by decide)).mono ?_
     rintro e w' ⟨v, rfl, hv, hb⟩
     exact hK.out _ _ hb (hv) trivial
    refine AS.sc rfl rfl rfl ?_ ?_
    ·intro k_ u w_ hk hJ hF K hK
     have h41 : PRat (x * y) 447 (u 41) w_ := AS.facts_get hF 41 (by simp)
     have h44 : RRat (x * y) 1000 (u 44) w_ := AS.facts_get hF 44 (by simp)
     clear hF
     go_simp
     refine (same_fact (n := 5000) (h41.more (by decide)) (h44.more (by decide)) (by decide) (by decide) (tab_up HTW.out hJ)).mono ?_
     rintro e w' ⟨rfl, hb⟩
     exact hK.out _ _ hb (rfl) trivial
    refine AS.sc rfl rfl rfl ?_ ?_
    ·intro k_ u w_ hk hJ hF K hK
     have h45 : u 45 = .bool true := AS.facts_get hF 45 (by simp)
     clear hF
     simp only [h45] at hK ⊢
     clear h45
     go_simp
     exact hK.out _ _ (Below.refl _ _) (rfl) trivial
    refine AS.sc rfl rfl rfl ?_ ?_
    ·intro k_ u w_ hk hJ hF K hK
     have h46 : u 46 = .bool true := AS.facts_get hF 46 (by simp)
     clear hF
     simp only [h46] at hK ⊢
     clear h46
     go_simp
     exact hK.out _ _ (Below.refl _ _) (rfl) trivial
    refine AS.sc rfl rfl rfl ?_ ?_
    ·intro k_ u w_ hk hJ hF K hK
     have h46 : u 46 = .bool true := AS.facts_get hF 46 (by simp)
     clear hF
     simp only [h46] at hK ⊢
     clear h46
     go_simp
     exact hK.out _ _ (Below.refl _ _) (rfl) trivial
    refine AS.sc rfl rfl rfl ?_ ?_
    ·intro k_ u w_ hk hJ hF K hK
     have h46 : u 46 = .bool true := AS.facts_get hF 46 (by simp)
     have h47 : u 47 = .int .i64 10 := AS.facts_get hF 47 (by simp)
     have h48 : u 48 = .int .i64 10 := AS.facts_get hF 48 (by simp)
     clear hF
     simp only [h46, h47, h48] at hK ⊢
     clear h46 h47 h48
     go_simp
     exact hK.out _ _ (Below.refl _ _) (rfl) trivial
    refine AS.sc rfl rfl rfl ?_ ?_
    ·intro k_ u w_ hk hJ hF K hK
     have h46 : u 46 = .bool true := AS.facts_get hF 46 (by simp)
     have h49 : u 49 = .bool true := AS.facts_get hF 49 (by simp)
     clear hF
     simp only [h46, h49] at hK ⊢
     clear h46 h49
     go_simp
     exact hK.out _ _ (Below.refl _ _) (rfl) trivial
    refine AS.sc rfl rfl rfl ?_ ?_
    ·intro k_ u w_ hk hJ hF K hK
     have h50 : u 50 = .bool true := AS.facts_get hF 50 (by simp)
     clear hF
     simp only [h50] at hK ⊢
     clear h50
     go_simp
     exact hK.out _ _ (Below.refl _ _) (rfl) trivial
    refine AS.sc rfl rfl rfl ?_ ?_
    ·intro k_ u w_ hk hJ hF K hK
     have h51 : u 51 = .bool true := AS.facts_get hF 51 (by simp)
     clear hF
     simp only [h51] at hK ⊢
     clear h51
     obtain rfl : k_ = 0 := Nat.le_zero.1 hk
     have hJ0 : Below W22.heap.size W22 w_ := hJ
     obtain ⟨y0, y1, y2, y3⟩ := ((b10.out).up hJ0).c4
     go_simp
     exact hK.out _ _ (Below.refl _ _) ((PRat.zero 447 _).kept (Keep.ofBelow hJ0)) trivial
    refine AS.sc rfl rfl rfl ?_ ?_
    ·intro k_ u w_ hk hJ hF K hK
     have h51 : u 51 = .bool true := AS.facts_get hF 51 (by simp)
     clear hF
     simp only [h51] at hK ⊢
     clear h51
     obtain rfl : k_ = 0 := Nat.le_zero.1 hk
     have hJ0 : Below W22.heap.size W22 w_ := hJ
     obtain ⟨y0, y1, y2, y3⟩ := ((b12.out).up hJ0).c4
     go_simp
     exact hK.out _ _ (Below.refl _ _) ((RRat.zero 1000 _).kept (Keep.ofBelow hJ0)) trivial
    refine AS.sc rfl rfl rfl ?_ ?_
    ·intro k_ u w_ hk hJ hF K hK
     have h51 : u 51 = .bool true := AS.facts_get hF 51 (by simp)
     have h52 : PRat (0) 447 (u 52) w_ := AS.facts_get hF 52 (by simp)
     have h53 : RRat (0) 1000 (u 53) w_ := AS.facts_get hF 53 (by simp)
     clear hF
     simp only [h51] at hK ⊢
     clear h51
     go_simp
     refine (same_fact (n := 5000) (h52.more (by decide)) (h53.more (by decide)) (by decide) (by decide) (tab_up HTW.out hJ)).mono ?_
     rintro e w' ⟨rfl, hb⟩
     exact hK.out _ _ hb (rfl) trivial
    refine AS.sc rfl rfl rfl ?_ ?_
    ·intro k_ u w_ hk hJ hF K hK
     have h51 : u 51 = .bool true := AS.facts_get hF 51 (by simp)
     have h54 : u 54 = .bool true := AS.facts_get hF 54 (by simp)
     clear hF
     simp only [h51, h54] at hK ⊢
     clear h51 h54
     go_simp
     exact hK.out _ _ (Below.refl _ _) (rfl) trivial
    refine AS.sc rfl rfl rfl ?_ ?_
    ·intro k_ u w_ hk hJ hF K hK
     have h55 : u 55 = .bool true := AS.facts_get hF 55 (by simp)
     clear hF
     simp only [h55] at hK ⊢
     clear h55
     go_simp
     exact hK.out _ _ (Below.refl _ _) (rfl) trivial
    exact AS.StepsOk.nil
   ·intro u W24 hJ9 hF
    have h4 : u 4 = .bool true := AS.facts_get hF 4 (by simp [prodFL0, AS.temps])
    clear hF
    rw [show u 4 = _ from h4]
    clear h4
    replace b5 := hup b5 hJ9
    replace b6 := hup b6 hJ9
    replace b7 := hup b7 hJ9
    replace b8 := hup b8 hJ9
    replace b10 := hup b10 hJ9
    replace b12 := hup b12 hJ9
    replace HX := Lib.hid (HX.out.kept (Keep.ofBelow hJ9))
    replace HY := Lib.hid (HY.out.kept (Keep.ofBelow hJ9))
    replace HA := Lib.hid (HA.out.kept (Keep.ofBelow hJ9))
    replace HB := Lib.hid (HB.out.kept (Keep.ofBelow hJ9))
    have nbel := below_then HB23.out hJ9 HB23.out.size
    have HB25 := Lib.hid nbel
    clear nbel HB23 hJ9 x50 x51 x52 x53 x60 x61 x62 x63 x70 x71 x72 x73 x80 x81 x82 x83 x100 x101 x102 x103 x120 x121 x122 x123 szb s5 s6 s7 s8 s10 s12
    obtain ⟨x50, x51, x52, x53, s5⟩ := b5.out.d4
    obtain ⟨x60, x61, x62, x63, s6⟩ := b6.out.d4
    obtain ⟨x70, x71, x72, x73, s7⟩ := b7.out.d4
    obtain ⟨x80, x81, x82, x83, s8⟩ := b8.out.d4
    obtain ⟨x100, x101, x102, x103, s10⟩ := b10.out.d4
    obtain ⟨x120, x121, x122, x123, s12⟩ := b12.out.d4
    have szb := HB25.out.size
    go_wp2_with fail
    have hkeep := (Keep.refl W24)
    have hbel := HB25.out
    refine bodyPost_ret (v := .bool true) (by simp [results, Tryz.results5, go_sem]) rfl ⟨rfl, hbel⟩
  ·have HY0 := Lib.hid hy
   clear hy
   go_wp2_with fail
   refine (ratDiv_fact HX.out HY.out (by decide) (by decide) HY0.out).mono ?_
   rintro e W7 ⟨v, rfl, ⟨v0, rfl, hv⟩, hb⟩
   replace b5 := hup b5 hb
   replace b6 := hup b6 hb
   replace b7 := hup b7 hb
   replace b8 := hup b8 hb
   replace HX := Lib.hid (HX.out.kept (Keep.ofBelow hb))
   replace HY := Lib.hid (HY.out.kept (Keep.ofBelow hb))
   replace HA := Lib.hid (HA.out.kept (Keep.ofBelow hb))
   replace HB := Lib.hid (HB.out.kept (Keep.ofBelow hb))
   have nbel := below_then HB6.out hb HB6.out.size
   have HB8 := Lib.hid nbel
   clear nbel HB6 hb x50 x51 x52 x53 x60 x61 x62 x63 x70 x71 x72 x73 x80 x81 x82 x83 szb s5 s6 s7 s8
   obtain ⟨x50, x51, x52, x53, s5⟩ := b5.out.d4
   obtain ⟨x60, x61, x62, x63, s6⟩ := b6.out.d4
   obtain ⟨x70, x71, x72, x73, s7⟩ := b7.out.d4
   obtain ⟨x80, x81, x82, x83, s8⟩ := b8.out.d4
   have szb := HB8.out.size
   obtain ⟨k5, A5, l5, c5, m5, E5, p5, q5, rfl⟩ := hv.open
   have HQ := Lib.hid hv
   clear hv
   go_upto_region 7 with (fail)
   have q9 := b5.out.lt
   have q10 := b6.out.lt
   have q11 := b7.out.lt
   have q12 := b8.out.lt
   change Code.wp Tryz.prog _ _ _ (W7.alloc (.cells #[.bool k5, .slice A5 l5 c5, .bool m5, .slice E5 p5 q5] 27))
   obtain ⟨nb10, na⟩ := new1 W7 27 [.bool k5, .slice A5 l5 c5, .bool m5, .slice E5 p5 q5] lf4
   have nb5 := b5.out.up na
   have nb6 := b6.out.up na
   have nb7 := b7.out.up na
   have nb8 := b8.out.up na
   have nkeep := Keep.ofBelow na
   have nbel := below_then HB8.out na HB8.out.size
   generalize W7.alloc (.cells #[.bool k5, .slice A5 l5 c5, .bool m5, .slice E5 p5 q5] 27) = W13 at *
   clear na x50 x51 x52 x53 x60 x61 x62 x63 x70 x71 x72 x73 x80 x81 x82 x83 szb s5 s6 s7 s8 b5 b6 b7 b8
   have b5 := Lib.hid nb5
   have b6 := Lib.hid nb6
   have b7 := Lib.hid nb7
   have b8 := Lib.hid nb8
   have b10 := Lib.hid nb10
   clear nb5 nb6 nb7 nb8 nb10
   replace HX := Lib.hid (HX.out.kept nkeep)
   replace HY := Lib.hid (HY.out.kept nkeep)
   replace HA := Lib.hid (HA.out.kept nkeep)
   replace HB := Lib.hid (HB.out.kept nkeep)
   replace HQ := Lib.hid (HQ.out.kept nkeep)
   clear nkeep
   have HB14 := Lib.hid nbel
   clear nbel HB8
   obtain ⟨x50, x51, x52, x53, s5⟩ := b5.out.d4
   obtain ⟨x60, x61, x62, x63, s6⟩ := b6.out.d4
   obtain ⟨x70, x71, x72, x73, s7⟩ := b7.out.d4
   obtain ⟨x80, x81, x82, x83, s8⟩ := b8.out.d4
   obtain ⟨x100, x101, x102, x103, s10⟩ := b10.out.d4
   have szb := HB14.out.size
   go_wp2_with fail
   refine (rratDiv_fact HA.out HB.out (by decide) (by decide) HY0.out).mono ?_
   rintro e W15 ⟨v, rfl, hv, hb⟩
   replace b5 := hup b5 hb
   replace b6 := hup b6 hb
   replace b7 := hup b7 hb
   replace b8 := hup b8 hb
   replace b10 := hup b10 hb
   replace HX := Lib.hid (HX.out.kept (Keep.ofBelow hb))
   replace HY := Lib.hid (HY.out.kept (Keep.ofBelow hb))
   replace HA := Lib.hid (HA.out.kept (Keep.ofBelow hb))
   replace HB := Lib.hid (HB.out.kept (Keep.ofBelow hb))
   replace HQ := Lib.hid (HQ.out.kept (Keep.ofBelow hb))
   have nbel := below_then HB14.out hb HB14.out.size
   have HB16 := Lib.hid nbel
   clear nbel HB14 hb x50 x51 x52 x53 x60 x61 x62 x63 x70 x71 x72 x73 x80 x81 x82 x83 x100 x101 x102 x103 szb s5 s6 s7 s8 s10
   obtain ⟨x50, x51, x52, x53, s5⟩ := b5.out.d4
   obtain ⟨x60, x61, x62, x63, s6⟩ := b6.out.d4
   obtain ⟨x70, x71, x72, x73, s7⟩ := b7.out.d4
   obtain ⟨x80, x81, x82, x83, s8⟩ := b8.out.d4
   obtain ⟨x100, x101, x102, x103, s10⟩ := b10.out.d4
   have szb := HB16.out.size
   obtain ⟨k6, A6, l6, c6, m6, E6, p6, q6, rfl⟩ := hv.open
   have HP := Lib.hid hv
   clear hv
   go_upto_region 8 with (fail)
   have q17 := b5.out.lt
   have q18 := b6.out.lt
   have q19 := b7.out.lt
   have q20 := b8.out.lt
   have q21 := b10.out.lt
   change Code.wp Tryz.prog _ _ _ (W15.alloc (.cells #[.bool k6, .slice A6 l6 c6, .bool m6, .slice E6 p6 q6] 35))
   obtain ⟨nb12, na⟩ := new1 W15 35 [.bool k6, .slice A6 l6 c6, .bool m6, .slice E6 p6 q6] lf4
   have nb5 := b5.out.up na
   have nb6 := b6.out.up na
   have nb7 := b7.out.up na
   have nb8 := b8.out.up na
   have nb10 := b10.out.up na
   have nkeep := Keep.ofBelow na
   have nbel := below_then HB16.out na HB16.out.size
   generalize W15.alloc (.cells #[.bool k6, .slice A6 l6 c6, .bool m6, .slice E6 p6 q6] 35) = W22 at *
   clear na x50 x51 x52 x53 x60 x61 x62 x63 x70 x71 x72 x73 x80 x81 x82 x83 x100 x101 x102 x103 szb s5 s6 s7 s8 s10 b5 b6 b7 b8 b10
   have b5 := Lib.hid nb5
   have b6 := Lib.hid nb6
   have b7 := Lib.hid nb7
   have b8 := Lib.hid nb8
   have b10 := Lib.hid nb10
   have b12 := Lib.hid nb12
   clear nb5 nb6 nb7 nb8 nb10 nb12
   replace HX := Lib.hid (HX.out.kept nkeep)
   replace HY := Lib.hid (HY.out.kept nkeep)
   replace HA := Lib.hid (HA.out.kept nkeep)
   replace HB := Lib.hid (HB.out.kept nkeep)
   replace HQ := Lib.hid (HQ.out.kept nkeep)
   replace HP := Lib.hid (HP.out.kept nkeep)
   clear nkeep
   have HB23 := Lib.hid nbel
   clear nbel HB16
   obtain ⟨x50, x51, x52, x53, s5⟩ := b5.out.d4
   obtain ⟨x60, x61, x62, x63, s6⟩ := b6.out.d4
   obtain ⟨x70, x71, x72, x73, s7⟩ := b7.out.d4
   obtain ⟨x80, x81, x82, x83, s8⟩ := b8.out.d4
   obtain ⟨x100, x101, x102, x103, s10⟩ := b10.out.d4
   obtain ⟨x120, x121, x122, x123, s12⟩ := b12.out.d4
   have szb := HB23.out.size
   have HTW := Lib.hid (tab_up HT.out HB23.out)
   refine AS.region_facts (prodFL x y) (JNo W22) [[], [], [39, 40], [], [], [42, 43], [41, 44], [45], [46], [46], [46, 47, 48], [46, 49], [50], [51], [51], [51, 52, 53], [51, 54], [55]] [] [[]] [0, 0, 0, 0, 0, 0, 0, 0, 0, 0, 0, 0, 0, 0, 0, 0, 0, 0] [] (fun u => by simp only [prodFL, AS.temps, List.map_cons, List.map_nil, fillL, List.setIfInBounds_toArray, List.set_cons_zero, List.set_cons_succ]; rfl) (by kernel_rfl) (by kernel_rfl) (JNo.st W22) (below_drew (Below.refl _ _)) ?_ ?_
   ·refine AS.sc rfl rfl rfl ?_ ?_
    ·intro k_ u w_ hk hJ hF K hK
     clear hF
     obtain rfl : k_ = 0 := Nat.le_zero.1 hk
     have hJ0 : Below W22.heap.size W22 w_ := hJ
     obtain ⟨y0, y1, y2, y3⟩ := ((b5.out).up hJ0).c4
     go_simp
     exact hK.out _ _ (Below.refl _ _) ((HX.out).kept (Keep.ofBelow hJ0)) trivial
    refine AS.sc rfl rfl rfl ?_ ?_
    ·intro k_ u w_ hk hJ hF K hK
     clear hF
     obtain rfl : k_ = 0 := Nat.le_zero.1 hk
     have hJ0 : Below W22.heap.size W22 w_ := hJ
     obtain ⟨y0, y1, y2, y3⟩ := ((b6.out).up hJ0).c4
     go_simp
     exact hK.out _ _ (Below.refl _ _) ((HY.out).kept (Keep.ofBelow hJ0)) trivial
    refine AS.sc rfl rfl rfl ?_ ?_
    ·intro k_ u w_ hk hJ hF K hK
     have h39 : PRat (x) 223 (u 39) w_ := AS.facts_get hF 39 (by simp)
     have h40 : PRat (y) 223 (u 40) w_ := AS.facts_get hF 40 (by simp)
     clear hF
     go_simp
     refine (ratMul_fact (n := 223) (h39.more (by decide)) (h40.more (by decide)) (by decide) (by decide)).mono ?_
     rintro e w' ⟨v, rfl, hv, hb⟩
     exact hK.out _ _ hb (hv) trivial
    refine AS.sc rfl rfl rfl ?_ ?_
    ·intro k_ u w_ hk hJ hF K hK
     clear hF
     obtain rfl : k_ = 0 := Nat.le_zero.1 hk
     have hJ0 : Below W22.heap.size W22 w_ := hJ
     obtain ⟨y0, y1, y2, y3⟩ := ((b7.out).up hJ0).c4
     go_simp
     exact hK.out _ _ (Below.refl _ _) ((HA.out).kept (Keep.ofBelow hJ0)) trivial
    refine AS.sc rfl rfl rfl ?_ ?_
    ·intro k_ u w_ hk hJ hF K hK
     clear hF
     obtain rfl : k_ = 0 := Nat.le_zero.1 hk
     have hJ0 : Below W22.heap.size W22 w_ := hJ
     obtain ⟨y0, y1, y2, y3⟩ := ((b8.out).up hJ0).c4
     go_simp
     exact hK.out _ _ (Below.refl _ _) ((HB.out).kept (Keep.ofBelow hJ0)) trivial
    refine AS.sc rfl rfl rfl ?_ ?_
    ·intro k_ u w_ hk hJ hF K hK
     have h42 : RRat (x) 500 (u 42) w_ := AS.facts_get hF 42 (by simp)
     have h43 : RRat (y) 500 (u 43) w_ := AS.facts_get hF 43 (by simp)
     clear hF
     go_simp
     refine (rratMul_fact h42 h43 (by decide) (by decide)).mono ?_
     rintro e w' ⟨v, rfl, hv, hb⟩
     exact hK.out _ _ hb (hv) trivial
    refine AS.sc rfl rfl rfl ?_ ?_
    ·intro k_ u w_ hk hJ hF K hK
     have h41 : PRat (x * y) 447 (u 41) w_ := AS.facts_get hF 41 (by simp)
     have h44 : RRat (x * y) 1000 (u 44) w_ := AS.facts_get hF 44 (by simp)
     clear hF
     go_simp
     refine (same_fact (n := 5000) (h41.more (by decide)) (h44.more (by decide)) (by decide) (by decide) (tab_up HTW.out hJ)).mono ?_
     rintro e w' ⟨rfl, hb⟩
     exact hK.out _ _ hb (rfl) trivial
    refine AS.sc rfl rfl rfl ?_ ?_
    ·intro k_ u w_ hk hJ hF K hK
     have h45 : u 45 = .bool true := AS.facts_get hF 45 (by simp)
     clear hF
     simp only [h45] at hK ⊢
     clear h45
     go_simp
     exact hK.out _ _ (Below.refl _ _) (rfl) trivial
    refine AS.sc rfl rfl rfl ?_ ?_
    ·intro k_ u w_ hk hJ hF K hK
     have h46 : u 46 = .bool true := AS.facts_get hF 46 (by simp)
     clear hF
     simp only [h46] at hK ⊢
     clear h46
     go_simp
     exact hK.out _ _ (Below.refl _ _) (rfl) trivial
    refine AS.sc rfl rfl rfl ?_ ?_
    ·intro k_ u w_ hk hJ hF K hK
     have h46 : u 46 = .bool true := AS.facts_get hF 46 (by simp)
     clear hF
     simp only [h46] at hK ⊢
     clear h46
     go_simp
     exact hK.out _ _ (Below.refl _ _) (rfl) trivial
    refine AS.sc rfl rfl rfl ?_ ?_
    ·intro k_ u w_ hk hJ hF K hK
     have h46 : u 46 = .bool true := AS.facts_get hF 46 (by simp)
     have h47 : u 47 = .int .i64 0 := AS.facts_get hF 47 (by simp)
     have h48 : u 48 = .int .i64 0 := AS.facts_get hF 48 (by simp)
     clear hF
     simp only [h46, h47, h48] at hK ⊢
     clear h46 h47 h48
     go_simp
     exact hK.out _ _ (Below.refl _ _) (rfl) trivial
    refine AS.sc rfl rfl rfl ?_ ?_
    ·intro k_ u w_ hk hJ hF K hK
     have h46 : u 46 = .bool true := AS.facts_get hF 46 (by simp)
     have h49 : u 49 = .bool true := AS.facts_get hF 49 (by simp)
     clear hF
     simp only [h46, h49] at hK ⊢
     clear h46 h49
     go_simp
     exact hK.out _ _ (Below.refl _ _) (rfl) trivial
    refine AS.sc rfl rfl rfl ?_ ?_
    ·intro k_ u w_ hk hJ hF K hK
     have h50 : u 50 = .bool true := AS.facts_get hF 50 (by simp)
     clear hF
     simp only [h50] at hK ⊢
     clear h50
     go_simp
     exact hK.out _ _ (Below.refl _ _) (rfl) trivial
    refine AS.sc rfl rfl rfl ?_ ?_
    ·intro k_ u w_ hk hJ hF K hK
     have h51 : u 51 = .bool true := AS.facts_get hF 51 (by simp)
     clear hF
     simp only [h51] at hK ⊢
     clear h51
     obtain rfl : k_ = 0 := Nat.le_zero.1 hk
     have hJ0 : Below W22.heap.size W22 w_ := hJ
     obtain ⟨y0, y1, y2, y3⟩ := ((b10.out).up hJ0).c4
     go_simp
     exact hK.out _ _ (Below.refl _ _) ((HQ.out).kept (Keep.ofBelow hJ0)) trivial
    refine AS.sc rfl rfl rfl ?_ ?_
    ·intro k_ u w_ hk hJ hF K hK
     have h51 : u 51 = .bool true := AS.facts_get hF 51 (by simp)
     clear hF
     simp only [h51] at hK ⊢
     clear h51
     obtain rfl : k_ = 0 := Nat.le_zero.1 hk
     have hJ0 : Below W22.heap.size W22 w_ := hJ
     obtain ⟨y0, y1, y2, y3⟩ := ((b12.out).up hJ0).c4
     go_simp
     exact hK.out _ _ (Below.refl _ _) ((HP.out).kept (Keep.ofBelow hJ0)) trivial
    refine AS.sc rfl rfl rfl ?_ ?_
    ·intro k_ u w_ hk hJ hF K hK
     have h51 : u 51 = .bool true := AS.facts_get hF 51 (by simp)
     have h52 : PRat (x / y) 447 (u 52) w_ := AS.facts_get hF 52 (by simp)
     have h53 : RRat (x / y) 1000 (u 53) w_ := AS.facts_get hF 53 (by simp)
     clear hF
     simp only [h51] at hK ⊢
     clear h51
     go_simp
     refine (same_fact (n := 5000) (h52.more (by decide)) (h53.more (by decide)) (by decide) (by decide) (tab_up HTW.out hJ)).mono ?_
     rintro e w' ⟨rfl, hb⟩
     exact hK.out _ _ hb (rfl) trivial
    refine AS.sc rfl rfl rfl ?_ ?_
    ·intro k_ u w_ hk hJ hF K hK
     have h51 : u 51 = .bool true := AS.facts_get hF 51 (by simp)
     have h54 : u 54 = .bool true := AS.facts_get hF 54 (by simp)
     clear hF
     simp only [h51, h54] at hK ⊢
     clear h51 h54
     go_simp
     exact hK.out _ _ (Below.refl _ _) (rfl) trivial
    refine AS.sc rfl rfl rfl ?_ ?_
    ·intro k_ u w_ hk hJ hF K hK
     have h55 : u 55 = .bool true := AS.facts_get hF 55 (by simp)
     clear hF
     simp only [h55] at hK ⊢
     clear h55
     go_simp
     exact hK.out _ _ (Below.refl _ _) (rfl) trivial
    exact AS.StepsOk.nil
   ·intro u W24 hJ9 hF
    have h4 : u 4 = .bool true := AS.facts_get hF 4 (by simp [prodFL, AS.temps])
    clear hF
    rw [show u 4 = _ from h4]
    clear h4
    replace b5 := hup b5 hJ9
    replace b6 := hup b6 hJ9
    replace b7 := hup b7 hJ9
    replace b8 := hup b8 hJ9
    replace b10 := hup b10 hJ9
    replace b12 := hup b12 hJ9
    replace HX := Lib.hid (HX.out.kept (Keep.ofBelow hJ9))
    replace HY := Lib.hid (HY.out.kept (Keep.ofBelow hJ9))
    replace HA := Lib.hid (HA.out.kept (Keep.ofBelow hJ9))
    replace HB := Lib.hid (HB.out.kept (Keep.ofBelow hJ9))
    replace HQ := Lib.hid (HQ.out.kept (Keep.ofBelow hJ9))
    replace HP := Lib.hid (HP.out.kept (Keep.ofBelow hJ9))
    have nbel := below_then HB23.out hJ9 HB23.out.size
    have HB25 := Lib.hid nbel
    clear nbel HB23 hJ9 x50 x51 x52 x53 x60 x61 x62 x63 x70 x71 x72 x73 x80 x81 x82 x83 x100 x101 x102 x103 x120 x121 x122 x123 szb s5 s6 s7 s8 s10 s12
    obtain ⟨x50, x51, x52, x53, s5⟩ := b5.out.d4
    obtain ⟨x60, x61, x62, x63, s6⟩ := b6.out.d4
    obtain ⟨x70, x71, x72, x73, s7⟩ := b7.out.d4
    obtain ⟨x80, x81, x82, x83, s8⟩ := b8.out.d4
    obtain ⟨x100, x101, x102, x103, s10⟩ := b10.out.d4
    obtain ⟨x120, x121, x122, x123, s12⟩ := b12.out.d4
    have szb := HB25.out.size
    go_wp2_with fail
    have hkeep := (Keep.refl W24)
    have hbel := HB25.out
    refine bodyPost_ret (v := .bool true) (by simp [results, Tryz.results5, go_sem]) rfl ⟨rfl, hbel⟩
end Go.Proofs.YtgihmikeapbpkaaGreatDoor
