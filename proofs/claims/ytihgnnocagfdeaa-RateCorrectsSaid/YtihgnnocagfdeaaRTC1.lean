/- Contracts and the law of RateCorrects, part 1: what was proved of each, callees first. -/
import Derived.Laws.StructEq
import Derived.Deep.LoopGhost
import Derived.Deep.CutRange
import Derived.Test.YtihgnnocagfdeaaRT3
namespace Go.Proofs.Ytihgnnocagfdeaa
open Go.RowKit
structure A4 (w : World) (b o : Nat) (a : Acc) : Prop where
 c0 : w.cell? ⟨b, o, none⟩ = some (.int .i64 a.code)
 c1 : w.cell? ⟨b, o + 1, none⟩ = some (.int .i64 a.kind)
 c2 : w.cell? ⟨b, o + 2, none⟩ = some (.int .i64 a.basis)
 c3 : w.cell? ⟨b, o + 3, none⟩ = some (.int .i64 a.par)
section
variable {w w' : World} {b o g B : Nat} {a : Acc} {x : Bal} {A : Option Addr} {L : List Acc} {M : List Bal}
end
open Go.RowKit Go.Sort
def RowR (_w : World) (L : List Rt) (e : Ending) (w' : World) : Prop := ∃ A c, e = .returned (.slice A L.length c) ∧ RowAt lyT w' A L
theorem RowR.of {w w' : World} {L : List Rt} {e : Ending} (h : RowQ w L e w') : RowR w L e w' := by
 obtain ⟨A4, c4, h2, h3⟩ := h
 obtain ⟨A5, c5, e5, h5, _⟩ := h3.reads
 cases e5
 exact ⟨A4, c4, h2, h5⟩
theorem row_lt {w : World} {A : Option Addr} {L : List Rt} (h : RowAt lyT w A L) (h0 : 0 < L.length) {g o : Nat} (hA : A = some ⟨g, o, none⟩) : g < w.heap.size := by
 obtain ⟨b, off, e, hlt, _⟩ := h h0
 rw [hA] at e; cases e
 exact hlt
structure Two16 (W : World) (B : Nat) (P : Value) (j : TD) (H : List Rt) (Q : Value) (k : TD) (G : List Rt) : Prop where
 one : TP W B P j H
 two : TP W B Q k G
 ap : ∀ x, j.own H.length x → ¬ k.own G.length x
section
variable {W W' : World} {B : Nat} {P Q : Value} {j k j' k' : TD} {H G H' G' : List Rt}
theorem Two16.symm (h : Two16 W B P j H Q k G) : Two16 W B Q k G P j H := ⟨h.two, h.one, fun x h1 h2 => h.ap x h2 h1⟩
theorem Two16.up (h : Two16 W B P j H Q k G) (hb : Below W.heap.size W W') : Two16 W' B P j H Q k G := ⟨h.one.up hb, h.two.up hb, h.ap⟩
theorem Two16.left (h : Two16 W B P j H Q k G) (hm : GoP W W' B P j H j' H') : Two16 W' B P j' H' Q k G :=
 ⟨hm.tp, h.two.only hm.mv.only (fun x h1 h2 => h.ap x h2 h1), fun x h1 h2 => by
  rcases hm.mv.own h1 with h3 | h3
  ·exact h.ap x h3 h2
  ·have := (h.two.2.own_lt h2).2; omega⟩
theorem Two16.right (h : Two16 W B P j H Q k G) (hm : GoP W W' B Q k G k' G') : Two16 W' B P j H Q k' G' := (h.symm.left hm).symm
theorem Two16.mk2 (h : TP W B P j H) (h2 : TP W' W.heap.size Q k G) (hb : Below W.heap.size W W') (hB : B ≤ W.heap.size) : Two16 W' B P j H Q k G :=
 ⟨h.up hb, ⟨h2.1, h2.2.low hB⟩, fun x h3 h4 => by have := (h.2.own_lt h3).2; have := (h2.2.own_lt h4).1; omega⟩
end
theorem setO_any {P : Value} {j : TD} {H : List Rt} (A : Option Addr) (cp n : Nat) (L : List Rt) {B : Nat} {w2 W : World} (hnl : L.length = n) (hj : TP W B P j H) (hB : w2.heap.size ≤ B) (hBW : B ≤ W.heap.size) (hz : RowAt lyT w2 A L) (hbc : Below w2.heap.size w2 W) (hok : ∀ r ∈ L, okT r) (hn : H.length + n ≤ 900) :
  Calls Try.prog 29 #[P, .slice A n cp] W fun e w' => e = .returned (.tuple #[]) ∧ ∃ k, GoP W w' B P j H k (H ++ rtH j.g L) := by
 subst hnl
 exact setL_any A cp L hj hBW (hz.up hbc) (fun h0 g o hA hx => by
  have h1 := row_lt hz h0 hA
  have h2 := (hj.2.own_lt hx).1
  omega) hok hn
theorem setN_any {P : Value} {j : TD} {H : List Rt} (a b : Rt) {B : Nat} {w1 W : World} (hj : TP w1 B P j H) (hB : B ≤ w1.heap.size) (hbw : Below w1.heap.size w1 W) (hw : Wh 24 W w1.heap.size (lyT.all [a, b])) (ha : okT a) (hb : okT b) (hn : H.length ≤ 890) :
  Calls Try.prog 29 #[P, .slice (some ⟨w1.heap.size, 0, none⟩) 2 2] W fun e w' => e = .returned (.tuple #[]) ∧ ∃ k, GoP W w' B P j H k (H ++ rtH j.g [a, b]) :=
 setL_any (some ⟨w1.heap.size, 0, none⟩) 2 [a, b] (hj.up hbw) (Nat.le_trans hB hbw.size) (fun _ => ⟨w1.heap.size, 0, rfl, hw.lt, hw.range⟩) (fun _ g o hA hx => by
  cases hA
  have h2 := (hj.2.own_lt hx).2
  omega) (fun r hr => by
  rcases List.mem_cons.1 hr with rfl | hr
  ·exact ha
  ·rcases List.mem_cons.1 hr with rfl | hr
   ·exact hb
   ·cases hr) (by simp; omega)
theorem rt_swap (g : ByteArray) (H : List Rt) (a b : Rt) (h : a.1 ≠ b.1) : rtL (H ++ rtH g [a, b]) = rtL (H ++ rtH g [b, a]) ∧ (H ++ rtH g [a, b]).length = (H ++ rtH g [b, a]).length := by
 unfold rtH
 cases ha : rtP g a <;> cases hb : rtP g b <;> simp [ha, hb]
 have h1 := rtL_two (H := H) h
 simpa using h1
open Go.RowKit
theorem wp_store_wh {P : Program} {o : Oper} {a : Act} {w : World} {K : Act → World → Prop} {Q : Exit → Act → World → Prop} (ty : TypeId) (x y : Operand) (hop : o.op = .store ty x y)
  (b : Nat) (hx : a.eval x = .pointer (some ⟨b, 0, none⟩)) (t : TypeId) (cs vs : List Value) (hy : a.eval y = .agg vs.toArray) (hw : Wh t w b cs) (hl : vs.length = cs.length)
  (hi : (P.info? ty).map (·.size) = some vs.toArray.size) (h1 : vs.toArray.all (·.oneCell') = true)
  (h : ∀ W, Hid (Wh t W b vs) → Hid (Only (fun k => k = b) w W) → W.heap.size = w.heap.size → K (a.put o.dst undef) W) : Oper.wp P o a w K Q :=
 wp_store_mid ty x y hop b 0 vs.toArray hx hy (hw.there (by simp [hl])) hi h1 (h _ (Lib.hid (hw.put vs hl)) (Lib.hid (Only.setCells (S := fun k => k = b) rfl vs 0 w)) (by
  have : ∀ (vs : List Value) (o : Nat) (w : World), (w.setCells b o vs).heap.size = w.heap.size := by
   intro vs
   induction vs with
   | nil => intro o w; rfl
   | cons v r ih => intro o w; rw [World.setCells, ih]; exact World.size_setCell _ _ _
  exact this _ _ _))
open Go.RowKit Go.Sort
def KpB (s : Nat) (W W' : World) : Prop := W.heap.size ≤ W'.heap.size ∧ ∀ p, s ≤ p → (∃ cs, cs.length = 4 ∧ Wh 24 W p cs) → ∃ cs, cs.length = 4 ∧ Wh 24 W' p cs
theorem KpB.of {s : Nat} {W W' : World} (h : Below W.heap.size W W') : KpB s W W' := ⟨h.size, fun _ _ ⟨cs, h1, h2⟩ => ⟨cs, h1, h2.up h⟩⟩
theorem KpB.put {s p : Nat} {r : Rt} {W W' : World} (h : Wh 24 W' p (rtC r)) (ho : Only (fun k => k = p) W W') (hz : W.heap.size ≤ W'.heap.size) : KpB s W W' := ⟨hz, fun x _ ⟨cs, h1, h2⟩ => by
 by_cases e : x = p
 ·subst e; exact ⟨_, rfl, h⟩
 ·exact ⟨cs, h1, h2.only ho e⟩⟩
def bxF (s : Nat) : AK.Fact (KpB s) := ⟨fun v w => ∃ p, v = .pointer (some ⟨p, 0, none⟩) ∧ s ≤ p ∧ ∃ cs, cs.length = 4 ∧ Wh 24 w p cs, fun _ _ _ hb ⟨p, h1, h2, h3⟩ => ⟨p, h1, h2, hb.2 p h2 h3⟩⟩
def twJ (w0 : World) (a b : Rt) : Nat → List Value → World → Prop
 | 0, _, W => Below w0.heap.size w0 W
 | 1, l, W => Below w0.heap.size w0 W ∧ ∀ v, l = [v] → ∃ p, v = .pointer (some ⟨p, 0, none⟩) ∧ w0.heap.size ≤ p ∧ Wh 24 W p (rtC a)
 | _ + 2, l, W => Below w0.heap.size w0 W ∧ ∀ v u, l = [v, u] → ∃ p q, v = .pointer (some ⟨p, 0, none⟩) ∧ u = .pointer (some ⟨q, 0, none⟩) ∧ w0.heap.size ≤ p ∧ w0.heap.size ≤ q ∧ Wh 24 W p (rtC a) ∧ Wh 24 W q (rtC b)
theorem twJ.st (w0 : World) (a b : Rt) : ∀ k l W W', Below W.heap.size W W' → twJ w0 a b k l W → twJ w0 a b k l W'
 | 0, _, _, _, hb, h => Below.trans h (hb.mono (Below.size h))
 | 1, _, _, _, hb, h => ⟨h.1.trans (hb.mono h.1.size), fun v hv => by obtain ⟨p, h1, h2, h3⟩ := h.2 v hv; exact ⟨p, h1, h2, h3.up hb⟩⟩
 | _ + 2, _, _, _, hb, h => ⟨h.1.trans (hb.mono h.1.size), fun v u hv => by obtain ⟨p, q, h1, h2, h3, h4, h5, h6⟩ := h.2 v u hv; exact ⟨p, q, h1, h2, h3, h4, h5.up hb, h6.up hb⟩⟩
section
variable {w0 w W : World} {a b : Rt} {k : Nat} {l : List Value}
theorem twJ.low (h : twJ w0 a b k l w) : Below w0.heap.size w0 w := by
 match k with
 | 0 => exact h
 | 1 => exact h.1
 | _ + 2 => exact h.1
theorem twJ.one {p : Nat} (h : twJ w0 a b 0 [] w) (hp : w0.heap.size ≤ p) (hw : Wh 24 W p (rtC a)) (ho : Only (fun k => k = p) w W) : twJ w0 a b 1 [.pointer (some ⟨p, 0, none⟩)] W :=
 ⟨Below.trans h (ho.below (fun k hk => by rw [hk]; exact hp) (Below.size h)), fun v hv => by cases hv; exact ⟨p, rfl, hp, hw⟩⟩
theorem twJ.two {v : Value} {q : Nat} (h : twJ w0 a b 1 [v] w) (hq : w0.heap.size ≤ q) (hw : Wh 24 W q (rtC b)) (ho : Only (fun k => k = q) w W) (hne : v ≠ .pointer (some ⟨q, 0, none⟩)) : twJ w0 a b 2 [v, .pointer (some ⟨q, 0, none⟩)] W :=
 ⟨h.1.trans (ho.below (fun k hk => by rw [hk]; exact hq) h.1.size), fun v' u' hv => by
  cases hv
  obtain ⟨p, rfl, h2, h3⟩ := h.2 _ rfl
  exact ⟨p, q, rfl, rfl, h2, hq, h3.only ho (fun e => hne (by rw [e])), hw⟩⟩
end
def rtcoF3 (s0 B2 : Nat) (a b : Rt) : List (Nat × AK.Fact (KpB B2)) := [(19, AK.Fact.is (.pointer (some ⟨s0, 0, none⟩))), (20, AK.Fact.is (rtVl a)), (21, AK.Fact.is (.pointer (some ⟨s0, 4, none⟩))), (22, AK.Fact.is (rtVl b)), (7, bxF B2), (8, bxF B2)]
def rtcoF4 (g : ByteArray) (A : Option Addr) (n c _s0 B2 : Nat) (a b : Rt) (F : Bool) (_p _q : Nat) : List (Nat × AK.Fact (KpT 2)) := [(23, AK.Fact.is (.string g)), (24, nilF 2 B2), (25, AK.Fact.is (.slice A n c)), (26, AK.Fact.triv), (27, AK.Fact.is (rtVl a)), (28, AK.Fact.is (rtVl b)), (29, boxF [a, b]), (30, AK.Fact.triv), (31, AK.Fact.is (.bool F)), (32, AK.Fact.is (.bool (!F)))]
set_option maxRecDepth 100000 in
set_option maxHeartbeats 6400000 in
theorem law_rcorrects16 (g : ByteArray) (A : Option Addr) (n c : Nat) (L : List Rt) (a b : Rt) (w : World) (hgm : g.size ≤ maxLen) (hnl : L.length = n) (hnm : n ≤ 3518437208780) (hz : RowAt lyT w A L) (hok : ∀ s ∈ L, okT s) (hka : okT a) (hkb : okT b) :
  Calls Try.prog 6 #[.string g, .slice A n c, rt2V a b] w fun e w' => e = .returned (.bool true) ∧ Below w.heap.size w w' := by
 obtain ⟨i0, hi, hz1, hz2, hz3⟩ := info_parts infoT
 have HAW := Lib.hid awake16_any
 obtain ⟨s0, hs0⟩ : ∃ s0, w.heap.size = s0 := ⟨_, rfl⟩
 obtain ⟨w1, hw1⟩ : ∃ w1, w.alloc (.cells #[.string a.1.1, .int .i64 a.1.2.1, .int .i64 a.1.2.2, .int .i64 a.2, .string b.1.1, .int .i64 b.1.2.1, .int .i64 b.1.2.2, .int .i64 b.2] 46) = w1 := ⟨_, rfl⟩
 have HXB1 : Hid (Wh 46 w1 s0 (rtC a ++ rtC b)) := Lib.hid (by rw [← hw1, ← hs0]; exact Wh.new w _ _)
 have HB1 : Hid (Below w.heap.size w w1) := Lib.hid (by rw [← hw1]; exact below_alloc_new _)
 have HS0 := Lib.hid hs0
 have HNL := Lib.hid hnl
 have HZ1 := Lib.hid (hz.up HB1.out)
 have HOL := Lib.hid hok
 have HOA := Lib.hid hka
 have HOB := Lib.hid hkb
 have HGM := Lib.hid hgm
 have HNM := Lib.hid hnm
 clear hnl hz hok hka hkb hgm hnm
 have HM1 : Hid True := Lib.hid trivial
 have HM2 : Hid True := Lib.hid trivial
 have HM3 : Hid True := Lib.hid trivial
 have HM4 : Hid True := Lib.hid trivial
 have HM5 : Hid True := Lib.hid trivial
 have HM6 : Hid True := Lib.hid trivial
 have HM7 : Hid True := Lib.hid trivial
 have HM8 : Hid True := Lib.hid trivial
 have HM9 : Hid True := Lib.hid trivial
 have HM10 : Hid True := Lib.hid trivial
 have HM11 : Hid True := Lib.hid trivial
 have HM12 : Hid True := Lib.hid trivial
 go_enter Try.func6, Try.ntmps6
 go_upto_region 3 with (go_at_call 11; refine (HAW.out _).mono ?_; rintro e w2 ⟨rfl, hb⟩; have HB2 : Hid (Below w1.heap.size w1 w2) := Lib.hid hb; clear hb)
 have HXB : Hid (Wh 46 w2 s0 (rtC a ++ rtC b)) := Lib.hid (HXB1.out.up HB2.out)
 have HLA : Hid (∀ W, Below w2.heap.size w2 W → (Instr.loadAt 24 (.pointer (some ⟨s0, 0, none⟩))).run Try.prog W = .ok (rtVl a) W) := Lib.hid (fun W h => (HXB.out.up h).rg.load 0 24 (rtC a) rfl _ Try.underlying24 rfl (by kernel_rfl))
 have HLB : Hid (∀ W, Below w2.heap.size w2 W → (Instr.loadAt 24 (.pointer (some ⟨s0, 4, none⟩))).run Try.prog W = .ok (rtVl b) W) := Lib.hid (fun W h => (HXB.out.up h).rg.load 4 24 (rtC b) rfl _ Try.underlying24 rfl (by kernel_rfl))
 have HRL : Hid (RowAt lyT w2 A L) := Lib.hid (HZ1.out.up HB2.out)
 have HBW : Hid (∀ W, Below w2.heap.size w2 W → Below w.heap.size w W) := Lib.hid (fun W h => (HB1.out.trans (HB2.out.mono HB1.out.size)).trans (h.mono (Nat.le_trans HB1.out.size HB2.out.size)))
 obtain ⟨B2, hB2⟩ : ∃ B2, w2.heap.size = B2 := ⟨_, rfl⟩
 have HB2E := Lib.hid hB2
 clear hB2
 refine AK.region_facts (Rp := Below0) (Kp := KpB B2) (rtcoF3 s0 B2 a b) (twJ w2 a b) [[], [19], [], [21], [], [], [7, 20], [8, 22]] [6, 7] [[], [7], [7, 8]] [2, 2, 2, 2, 2, 2, 2, 2] [0, 0, 0, 0, 0, 0, 0, 0] [7, 8] (fun u => by simp only [rtcoF3, AK.temps, List.map_cons, List.map_nil, fillL, List.setIfInBounds_toArray, List.set_cons_zero, List.set_cons_succ]; rfl) (by kernel_rfl) (by kernel_rfl) (fun _ _ h => h.1) (fun _ _ h => KpB.of h) (twJ.st _ _ _) (dc_drew (Below.refl _ _)) ?_ ?_
 ·refine AK.sc (lim := 2) (lo := 0) rfl rfl rfl rfl ?_ ?_
  ·intro k_ u w_ hk_ hl_ hJ hF K hK
   clear hF
   go_simp
   exact hK.out _ _ (Below.refl _ _) (rfl) trivial
  refine AK.sc (lim := 2) (lo := 0) rfl rfl rfl rfl ?_ ?_
  ·intro k_ u w_ hk_ hl_ hJ hF K hK
   have h19 : u 19 = .pointer (some ⟨s0, 0, none⟩) := AK.facts_get hF 19 (by simp)
   clear hF
   simp only [h19] at hK ⊢
   clear h19
   have hb9 := twJ.low hJ
   refine wp_load_is 24 _ rfl _ rfl (rtVl a) (HLA.out _ hb9) ?_
   exact hK.out _ _ (Below.refl _ _) (rfl) trivial
  refine AK.sc (lim := 2) (lo := 0) rfl rfl rfl rfl ?_ ?_
  ·intro k_ u w_ hk_ hl_ hJ hF K hK
   clear hF
   go_simp
   exact hK.out _ _ (Below.refl _ _) (rfl) trivial
  refine AK.sc (lim := 2) (lo := 0) rfl rfl rfl rfl ?_ ?_
  ·intro k_ u w_ hk_ hl_ hJ hF K hK
   have h21 : u 21 = .pointer (some ⟨s0, 4, none⟩) := AK.facts_get hF 21 (by simp)
   clear hF
   simp only [h21] at hK ⊢
   clear h21
   have hb9 := twJ.low hJ
   refine wp_load_is 24 _ rfl _ rfl (rtVl b) (HLB.out _ hb9) ?_
   exact hK.out _ _ (Below.refl _ _) (rfl) trivial
  refine AK.sc (lim := 2) (lo := 0) rfl rfl rfl rfl ?_ ?_
  ·intro k_ u w_ hk_ hl_ hJ hF K hK
   clear hF
   go_simp
   have hb9 := twJ.low hJ
   exact hK.out _ _ (below_alloc_new _) ⟨_, rfl, by rw [← HB2E.out]; exact hb9.size, _, rfl, Wh.new w_ 24 [.string ⟨#[]⟩, .int .i64 0, .int .i64 0, .int .i64 0]⟩ ⟨rfl, by simp⟩
  refine AK.sc (lim := 2) (lo := 0) rfl rfl rfl rfl ?_ ?_
  ·intro k_ u w_ hk_ hl_ hJ hF K hK
   clear hF
   go_simp
   have hb9 := twJ.low hJ
   exact hK.out _ _ (below_alloc_new _) ⟨_, rfl, by rw [← HB2E.out]; exact hb9.size, _, rfl, Wh.new w_ 24 [.string ⟨#[]⟩, .int .i64 0, .int .i64 0, .int .i64 0]⟩ ⟨rfl, by simp⟩
  refine AK.ss rfl rfl ?_ ?_
  ·intro u w_ hJ hA_ hF K hK
   have h7 : ∃ p, u 7 = .pointer (some ⟨p, 0, none⟩) ∧ B2 ≤ p ∧ ∃ cs, cs.length = 4 ∧ Wh 24 w_ p cs := AK.facts_get hF 7 (by simp)
   have h20 : u 20 = rtVl a := AK.facts_get hF 20 (by simp)
   clear hF
   obtain ⟨p7, h7, hp7, cs7, hl7, hw7⟩ := h7
   have e7 := h7
   simp only [h7, h20] at hK ⊢
   clear h7 h20
   refine wp_store_wh 24 _ _ rfl p7 rfl 24 cs7 (rtC a) rfl hw7 (by rw [hl7]; rfl) (by kernel_rfl) (all_oneCell_toArray fun v hv => lyT.one a v hv) ?_
   intro W hr ho hz
   exact hK.out undef _ (by show twJ w2 a b 1 [u 7] W; rw [e7]; exact twJ.one hJ (by rw [HB2E.out]; exact hp7) hr.out ho.out) (KpB.put hr.out ho.out (Nat.le_of_eq hz.symm)) trivial
  refine AK.ss rfl rfl ?_ ?_
  ·intro u w_ hJ hA_ hF K hK
   have h8 : ∃ p, u 8 = .pointer (some ⟨p, 0, none⟩) ∧ B2 ≤ p ∧ ∃ cs, cs.length = 4 ∧ Wh 24 w_ p cs := AK.facts_get hF 8 (by simp)
   have h22 : u 22 = rtVl b := AK.facts_get hF 22 (by simp)
   clear hF
   obtain ⟨p8, h8, hp8, cs8, hl8, hw8⟩ := h8
   have e8 := h8
   simp only [h8, h22] at hK ⊢
   clear h8 h22
   refine wp_store_wh 24 _ _ rfl p8 rfl 24 cs8 (rtC b) rfl hw8 (by rw [hl8]; rfl) (by kernel_rfl) (all_oneCell_toArray fun v hv => lyT.one b v hv) ?_
   intro W hr ho hz
   exact hK.out undef _ (by show twJ w2 a b 2 [u 7, u 8] W; rw [e8]; exact twJ.two (v := u 7) hJ (by rw [HB2E.out]; exact hp8) hr.out ho.out (by rw [← e8]; exact hA_ 7 (by simp) 8 (by simp) (by decide))) (KpB.put hr.out ho.out (Nat.le_of_eq hz.symm)) trivial
  exact AK.StepsOk.nil
 ·intro u W9 hJ9 hF
  clear hF
  obtain ⟨p, q, h7, h8, hp, hq, hpx, hqx⟩ := hJ9.2 _ _ rfl
  have HB29 : Hid (Below w2.heap.size w2 W9) := Lib.hid hJ9.1
  simp only [h7, h8]
  clear h7 h8 hJ9
  have HPX : Hid (Wh 24 W9 p (rtC a)) := Lib.hid hpx
  have HQX : Hid (Wh 24 W9 q (rtC b)) := Lib.hid hqx
  have HRL9 : Hid (RowAt lyT W9 A L) := Lib.hid (HRL.out.up HB29.out)
  have HBW9 : Hid (∀ W, Below W9.heap.size W9 W → Below w.heap.size w W) := Lib.hid (fun W h => HBW.out W (HB29.out.trans (h.mono HB29.out.size)))
  clear HRL HBW HB2E hpx hqx hp hq
  have HRL := HRL9
  have HBW := HBW9
  clear HRL9 HBW9 B2
  go_wp2_with fail
  obtain ⟨B2, hB2⟩ : ∃ B2, W9.heap.size = B2 := ⟨_, rfl⟩
  have HB2E := Lib.hid hB2
  obtain ⟨Lq, hLq⟩ : ∃ Lq, L ++ [a, b] = Lq := ⟨_, rfl⟩
  have HLQ := Lib.hid hLq
  obtain ⟨F, hF⟩ : ∃ F, fewT g Lq = F := ⟨_, rfl⟩
  have HFE := Lib.hid hF
  have HFW : Hid (∀ A9 c9 W, RowAt lyT W A9 Lq → Calls Try.prog 12 #[.string g, .slice A9 Lq.length c9] W fun e w' => e = .returned (.bool F) ∧ W = w') := Lib.hid (fun A9 c9 W h => by rw [← hF]; exact few16_any g A9 c9 Lq W h (by rw [← hLq, List.length_append, HNL.out]; have := HNM.out; simp; omega))
  clear hB2 hLq hF
  refine AK.region_facts (Rp := Below0) (Kp := KpT 2) (rtcoF4 g A n c s0 B2 a b F p q) (rhJ W9 L Lq) [[], [], [], [24, 25], [], [], [27, 28], [26, 29], [23, 30], [31]] [3, 7] [[], [26], [30]] [2, 2, 2, 2, 2, 2, 2, 2, 2, 2] [0, 0, 0, 0, 0, 0, 0, 0, 2, 0] [] (fun u => by simp only [rtcoF4, AK.temps, List.map_cons, List.map_nil, fillL, List.setIfInBounds_toArray, List.set_cons_zero, List.set_cons_succ]; rfl) (by kernel_rfl) (by kernel_rfl) (fun _ _ h => h.1) (fun _ _ h => KpT.of h) (rhJ.st _ _ _) (dc_drew (Below.refl _ _)) ?_ ?_
  ·refine AK.sc (lim := 2) (lo := 0) rfl rfl rfl rfl ?_ ?_
   ·intro k_ u w_ hk_ hl_ hJ hF K hK
    clear hF
    go_simp
    exact hK.out _ _ (Below.refl _ _) (rfl) trivial
   refine AK.sc (lim := 2) (lo := 0) rfl rfl rfl rfl ?_ ?_
   ·intro k_ u w_ hk_ hl_ hJ hF K hK
    clear hF
    go_simp
    have hb9 := rhJ.low hJ
    exact hK.out _ _ (below_alloc_new _) (nilT_new (by rw [← HB2E.out]; exact hb9.size)) trivial
   refine AK.sc (lim := 2) (lo := 0) rfl rfl rfl rfl ?_ ?_
   ·intro k_ u w_ hk_ hl_ hJ hF K hK
    clear hF
    go_simp
    exact hK.out _ _ (Below.refl _ _) (rfl) trivial
   refine AK.ss rfl rfl ?_ ?_
   ·intro u w_ hJ hA_ hF K hK
    have h24 : NilT B2 (u 24) w_ := AK.facts_get hF 24 (by simp)
    have h25 : u 25 = .slice A n c := AK.facts_get hF 25 (by simp)
    clear hF
    simp only [h25] at hK ⊢
    clear h25
    have hb9 := rhJ.low hJ
    refine wp_app_copy (.tmp 24) (.tmp 25) 22 rfl i0 _ Try.underlying22 hi hz1 hz2 hz3 rfl rfl h24 A n c L HNL.out rfl (HRL.out.up hb9) (by have := HNM.out; omega) (by rw [← HB2E.out]; exact hb9.size) ?_
    intro v' w' ho' hb'
    rw [← HB2E.out] at ho'
    exact hK.out _ _ ⟨Below.trans hb9 (hb'.mono hb9.size), fun v hv => by cases hv; exact ho'⟩ (KpT.of hb') trivial
   refine AK.sc (lim := 2) (lo := 0) rfl rfl rfl rfl ?_ ?_
   ·intro k_ u w_ hk_ hl_ hJ hF K hK
    clear hF
    have hb9 := rhJ.low hJ
    refine wp_load_is 24 _ rfl _ rfl (rtVl a) (rate_load (HPX.out.up hb9)) ?_
    exact hK.out _ _ (Below.refl _ _) (rfl) trivial
   refine AK.sc (lim := 2) (lo := 0) rfl rfl rfl rfl ?_ ?_
   ·intro k_ u w_ hk_ hl_ hJ hF K hK
    clear hF
    have hb9 := rhJ.low hJ
    refine wp_load_is 24 _ rfl _ rfl (rtVl b) (rate_load (HQX.out.up hb9)) ?_
    exact hK.out _ _ (Below.refl _ _) (rfl) trivial
   refine AK.sc (lim := 2) (lo := 0) rfl rfl rfl rfl ?_ ?_
   ·intro k_ u w_ hk_ hl_ hJ hF K hK
    have h27 : u 27 = rtVl a := AK.facts_get hF 27 (by simp)
    have h28 : u 28 = rtVl b := AK.facts_get hF 28 (by simp)
    clear hF
    simp only [h27, h28] at hK ⊢
    clear h27 h28
    go_simp
    exact hK.out _ _ (below_alloc_new _) ⟨_, rfl, Wh.new w_ 24 (lyT.all [a, b])⟩ trivial
   refine AK.ss rfl rfl ?_ ?_
   ·intro u w_ hJ hA_ hF K hK
    have h29 : BoxT [a, b] (u 29) w_ := AK.facts_get hF 29 (by simp)
    clear hF
    obtain ⟨b29, h29, hW99⟩ := h29
    have hv9 := hJ.2 _ rfl
    simp only [h29] at hK ⊢
    clear h29
    refine wp_app_few (.tmp 26) (.tmp 29) 22 rfl i0 _ Try.underlying22 hi hz1 hz2 hz3 rfl rfl hv9 b29 2 [a, b] rfl (by decide) rfl hW99 (by have := HNL.out; have := HNM.out; omega) hJ.1.size ?_
    intro v' w' ho' hk' hb'
    rw [HLQ.out] at ho'
    exact hK.out _ _ ⟨hJ.1.trans hb', fun v hv => by cases hv; exact ho'⟩ hk' trivial
   refine AK.sc (lim := 2) (lo := 2) rfl rfl rfl rfl ?_ ?_
   ·intro k_ u w_ hk_ hl_ hJ hF K hK
    obtain rfl : k_ = 2 := by omega
    have h23 : u 23 = .string g := AK.facts_get hF 23 (by simp)
    clear hF
    have hv9 := hJ.2 _ rfl
    obtain ⟨A9, c9, e9, hr9, -⟩ := hv9.reads
    simp only [h23, e9] at hK ⊢
    clear h23 e9
    go_simp
    refine (HFW.out A9 c9 w_ hr9).mono ?_
    rintro e w6 ⟨rfl, rfl⟩
    exact hK.out _ _ (Below.refl _ _) (rfl) trivial
   refine AK.sc (lim := 2) (lo := 0) rfl rfl rfl rfl ?_ ?_
   ·intro k_ u w_ hk_ hl_ hJ hF K hK
    have h31 : u 31 = .bool F := AK.facts_get hF 31 (by simp)
    clear hF
    simp only [h31] at hK ⊢
    clear h31
    go_simp
    exact hK.out _ _ (Below.refl _ _) (rfl) trivial
   exact AK.StepsOk.nil
  ·intro u W8 hJ8 hF
   have h32 : u 32 = .bool (!F) := AK.facts_get hF 32 (by simp [rtcoF4, AK.temps])
   clear hF
   have HBC : Hid (Below W9.heap.size W9 W8) := Lib.hid hJ8.1
   clear hJ8
   simp only [h32]
   cases F
   ·go_wp2_with fail
    go_ret
    exact ⟨rfl, by have h9 := HBW.out _ HBC.out; first | exact h9 | (rw [← HS0.out]; exact h9)⟩
   have hn2 : n ≤ 200 := by rw [← HNL.out]; exact fewT_pre (g := g) (M := [a, b]) (by rw [HLQ.out]; exact HFE.out)
   have HN2 := Lib.hid hn2
   clear hn2
   by_cases hcu : curB g = true
   rotate_left
   ·have HNW : Hid (∀ W, Calls Try.prog 19 #[.string g] W fun e w' => e = .returned (.tuple #[.pointer none, .int .i64 1]) ∧ Below W.heap.size W w') := Lib.hid (fun W => (nwT_any g W).mono fun e w' h => ⟨by have h1 := h.1; unfold NwT at h1; rw [if_neg hcu] at h1; exact h1, h.2⟩)
    clear hcu
    go_wp2_with (go_at_call 19; refine (HNW.out _).mono ?_; rintro e w3 ⟨rfl, hb⟩; have hB3 := Lib.hid (HBC.out.trans (hb.mono HBC.out.size)); clear HBC; have HBC := hB3; clear hB3 hb)
    go_ret
    exact ⟨by first | rfl | simp, by have h9 := HBW.out _ HBC.out; first | exact h9 | (rw [← HS0.out]; exact h9)⟩
   have HNW : Hid (∀ W, Calls Try.prog 19 #[.string g] W fun e w' => (∃ (b : Nat) (j : TD), e = .returned (.tuple #[.pointer (some ⟨b, 0, none⟩), .int .i64 0]) ∧ TP w' W.heap.size (.pointer (some ⟨b, 0, none⟩)) j [] ∧ j.g = g) ∧ Below W.heap.size W w') := Lib.hid (fun W => (nwT_any g W).mono fun e w' h => ⟨by have h1 := h.1; unfold NwT at h1; rw [if_pos hcu] at h1; exact h1, h.2⟩)
   clear hcu
   go_upto_region 10 with (first
    | (go_at_call 19; refine (HNW.out _).mono ?_; rintro e w4 ⟨⟨b3, j, rfl, hj, hg⟩, hb⟩; have HJ := Lib.hid (show TP w4 W9.heap.size _ j [] from ⟨hj.1, hj.2.low HBC.out.size⟩); have HGJ := Lib.hid hg; clear hj hg; have hB3 := Lib.hid (HBC.out.trans (hb.mono HBC.out.size)); clear HBC; have HBC := hB3; clear hB3 hb)
    | (go_at_call 29; refine (setO_any A c n L HNL.out HJ.out (Nat.le_refl _) HBC.out.size HRL.out HBC.out HOL.out (by have := HN2.out; simp; omega)).mono ?_; rintro e w6 ⟨rfl, j5, hm⟩; have HJ5 := Lib.hid hm.tp; have HG5 := Lib.hid hm.g; have hB3 := Lib.hid (HBC.out.trans (hm.below HJ.out HBC.out.size)); clear HBC; have HBC := hB3; clear hB3; clear hm HJ))
   obtain ⟨H1, hH1⟩ : ∃ H1, [] ++ rtH j.g L = H1 := ⟨_, rfl⟩
   rw [hH1] at HJ5
   have HHL : Hid (H1.length ≤ 200) := Lib.hid (by rw [← hH1]; have h1 := rtH_len j.g L; have := HNL.out; have := HN2.out; simp; omega)
   clear hH1
   obtain ⟨V1, hV1⟩ : ∃ V1, (tbF H1 b.1).getD 0 = V1 := ⟨_, rfl⟩
   obtain ⟨B1, hB1⟩ : ∃ B1, (tbF H1 b.1).isSome = B1 := ⟨_, rfl⟩
   have HG1 : Hid (∀ W, TP W W9.heap.size (.pointer (some ⟨b3, 0, none⟩)) j5 H1 → Calls Try.prog 27 #[.pointer (some ⟨b3, 0, none⟩), .string b.1.1, .int .i64 b.1.2.1, .int .i64 b.1.2.2] W fun e w' => e = .returned (.tuple #[.int .i64 V1, .bool B1]) ∧ W = w') := Lib.hid (fun W h => by rw [← hV1, ← hB1]; exact getP_any b.1 h HOB.out.1)
   obtain ⟨P, hP⟩ : ∃ P, rtP g a = P := ⟨_, rfl⟩
   obtain ⟨E, hE⟩ : ∃ E : Int, (if P then (0 : Int) else 1) = E := ⟨_, rfl⟩
   have HSE : Hid (∀ W, TP W W9.heap.size (.pointer (some ⟨b3, 0, none⟩)) j5 H1 → W9.heap.size ≤ W.heap.size → Calls Try.prog 22 #[.pointer (some ⟨b3, 0, none⟩), rtVl a] W fun e w' => e = .returned (.int .i64 E) ∧ ∃ x, GoP W w' W9.heap.size (.pointer (some ⟨b3, 0, none⟩)) j5 H1 x (adR j5.g H1 a)) := Lib.hid (fun W h h2 => setP_any a h h2 HOA.out.1 (by have := HHL.out; omega) E (by rw [← hE, ← hP, HG5.out, HGJ.out]))
   have HPE := Lib.hid hP
   have cs_ := HQX.out.up HBC.out
   have c0 := cs_.at 0 _ rfl
   have c1 := cs_.at 1 _ rfl
   have c2 := cs_.at 2 _ rfl
   clear cs_ hP
   cases P
   ·have hE1 : E = 1 := by rw [← hE]; rfl
    subst hE1
    clear hV1 hB1 hE
    go_wp2_with (first
     | (go_at_call 27; refine (HG1.out _ HJ5.out).mono ?_; rintro e w7 ⟨rfl, rfl⟩)
     | (refine wpList_load_is rfl 24 _ rfl (.pointer (some ⟨p, 0, none⟩)) rfl (rtVl a) (rate_load (HPX.out.up HBC.out)) ?_)
     | (go_at_call 22; refine (HSE.out _ HJ5.out HBC.out.size).mono ?_; rintro e w8 ⟨rfl, j8, hm⟩; have hB3 := Lib.hid (HBC.out.trans (hm.below HJ5.out HBC.out.size)); clear HBC; have HBC := hB3; clear hB3; clear hm))
    go_ret
    exact ⟨by first | rfl | simp, by have h9 := HBW.out _ HBC.out; first | exact h9 | (rw [← HS0.out]; exact h9)⟩
   have hE1 : E = 0 := by rw [← hE]; rfl
   subst hE1
   have HAD : Hid (adR j5.g H1 a = H1 ++ [a]) := Lib.hid (by unfold adR; rw [HG5.out, HGJ.out, HPE.out]; rfl)
   rw [HAD.out] at HSE
   obtain ⟨V2, hV2⟩ : ∃ V2, (tbF (H1 ++ [a]) b.1).getD 0 = V2 := ⟨_, rfl⟩
   obtain ⟨B2, hB2⟩ : ∃ B2, (tbF (H1 ++ [a]) b.1).isSome = B2 := ⟨_, rfl⟩
   have HG2 : Hid (∀ x W, TP W W9.heap.size (.pointer (some ⟨b3, 0, none⟩)) x (H1 ++ [a]) → Calls Try.prog 27 #[.pointer (some ⟨b3, 0, none⟩), .string b.1.1, .int .i64 b.1.2.1, .int .i64 b.1.2.2] W fun e w' => e = .returned (.tuple #[.int .i64 V2, .bool B2]) ∧ W = w') := Lib.hid (fun x W h => by rw [← hV2, ← hB2]; exact getP_any b.1 h HOB.out.1)
   have HG3 : Hid (∀ x W, TP W W9.heap.size (.pointer (some ⟨b3, 0, none⟩)) x (H1 ++ [a]) → Calls Try.prog 27 #[.pointer (some ⟨b3, 0, none⟩), .string a.1.1, .int .i64 a.1.2.1, .int .i64 a.1.2.2] W fun e w' => e = .returned (.tuple #[.int .i64 a.2, .bool true]) ∧ W = w') := Lib.hid (fun x W h => by
    have h1 := getP_any a.1 h HOA.out.1
    rw [tbF_snoc, if_pos rfl] at h1
    exact h1)
   obtain ⟨Kq, hKq⟩ : ∃ Kq, decide (a.1 = b.1) = Kq := ⟨_, rfl⟩
   have HSK : Hid (∀ W, Calls Try.prog 30 #[rtVl a, rtVl b] W fun e w' => e = .returned (.bool Kq) ∧ Below W.heap.size W w') := Lib.hid (fun W => by rw [← hKq]; exact sameKey_any a b W)
   cases Kq
   ·have hne : b.1 ≠ a.1 := fun e => of_decide_eq_false hKq e.symm
    rw [tbF_snoc, if_neg hne] at hV2 hB2
    rw [hV1] at hV2
    rw [hB1] at hB2
    subst hV2 hB2
    clear hV1 hB1 hE hKq hne
    go_wp2_with (first
     | (clear HM1; go_at_call 27; refine (HG1.out _ HJ5.out).mono ?_; rintro e w7 ⟨rfl, rfl⟩)
     | (clear HM2; refine wpList_load_is rfl 24 _ rfl (.pointer (some ⟨p, 0, none⟩)) rfl (rtVl a) (rate_load (HPX.out.up HBC.out)) ?_)
     | (go_at_call 22; refine (HSE.out _ HJ5.out HBC.out.size).mono ?_; rintro e w8 ⟨rfl, j8, hm⟩; have hB3 := Lib.hid (HBC.out.trans (hm.below HJ5.out HBC.out.size)); clear HBC; have HBC := hB3; clear hB3; have HJ8 := Lib.hid hm.tp; clear hm; have cs_ := HQX.out.up HBC.out; have c0 := cs_.at 0 _ rfl; have c1 := cs_.at 1 _ rfl; have c2 := cs_.at 2 _ rfl; have ds_ := HPX.out.up HBC.out; have d0 := ds_.at 0 _ rfl; have d1 := ds_.at 1 _ rfl; have d2 := ds_.at 2 _ rfl; have d3 := ds_.at 3 _ rfl; clear cs_ ds_)
     | (clear HM3; go_at_call 27; refine (HG2.out _ _ HJ8.out).mono ?_; rintro e w10 ⟨rfl, rfl⟩)
     | (clear HM4; go_at_call 27; refine (HG3.out _ _ HJ8.out).mono ?_; rintro e w11 ⟨rfl, rfl⟩)
     | (clear HM5; refine wpList_load_if (by rfl) 24 _ rfl (.pointer (some ⟨p, 0, none⟩)) rfl (rtVl a) (rate_load (HPX.out.up HBC.out)) ?_)
     | (clear HM6; refine wpList_load_if (by rfl) 24 _ rfl (.pointer (some ⟨q, 0, none⟩)) rfl (rtVl b) (rate_load (HQX.out.up HBC.out)) ?_)
     | (clear HM7; refine wpList_load_if (by rfl) 24 _ rfl (.pointer (some ⟨p, 0, none⟩)) rfl (rtVl a) (rate_load (HPX.out.up HBC.out)) ?_)
     | (clear HM8; refine wpList_load_if (by rfl) 24 _ rfl (.pointer (some ⟨q, 0, none⟩)) rfl (rtVl b) (rate_load (HQX.out.up HBC.out)) ?_)
     | (go_at_call 30; refine (HSK.out _).mono ?_; rintro e w12 ⟨rfl, hb⟩; have hB3 := Lib.hid (HBC.out.trans (hb.mono HBC.out.size)); clear HBC; have HBC := hB3; clear hB3 hb; have ds_ := HPX.out.up HBC.out; have d3 := ds_.at 3 _ rfl; clear ds_))
    go_ret
    exact ⟨by first | rfl | simp, by have h9 := HBW.out _ HBC.out; first | exact h9 | (rw [← HS0.out]; exact h9)⟩
   ·have heq : b.1 = a.1 := (of_decide_eq_true hKq).symm
    rw [tbF_snoc, if_pos heq] at hV2 hB2
    have hV3 : V2 = a.2 := hV2.symm
    have hB3 : B2 = true := hB2.symm
    subst hV3 hB3
    clear hV1 hB1 hE hKq heq hV2 hB2
    go_wp2_with (first
     | (clear HM1; go_at_call 27; refine (HG1.out _ HJ5.out).mono ?_; rintro e w7 ⟨rfl, rfl⟩)
     | (clear HM2; refine wpList_load_is rfl 24 _ rfl (.pointer (some ⟨p, 0, none⟩)) rfl (rtVl a) (rate_load (HPX.out.up HBC.out)) ?_)
     | (go_at_call 22; refine (HSE.out _ HJ5.out HBC.out.size).mono ?_; rintro e w8 ⟨rfl, j8, hm⟩; have hB3 := Lib.hid (HBC.out.trans (hm.below HJ5.out HBC.out.size)); clear HBC; have HBC := hB3; clear hB3; have HJ8 := Lib.hid hm.tp; clear hm; have cs_ := HQX.out.up HBC.out; have c0 := cs_.at 0 _ rfl; have c1 := cs_.at 1 _ rfl; have c2 := cs_.at 2 _ rfl; have ds_ := HPX.out.up HBC.out; have d0 := ds_.at 0 _ rfl; have d1 := ds_.at 1 _ rfl; have d2 := ds_.at 2 _ rfl; have d3 := ds_.at 3 _ rfl; clear cs_ ds_)
     | (clear HM3; go_at_call 27; refine (HG2.out _ _ HJ8.out).mono ?_; rintro e w10 ⟨rfl, rfl⟩)
     | (clear HM4; go_at_call 27; refine (HG3.out _ _ HJ8.out).mono ?_; rintro e w11 ⟨rfl, rfl⟩)
     | (clear HM5; refine wpList_load_if (by rfl) 24 _ rfl (.pointer (some ⟨p, 0, none⟩)) rfl (rtVl a) (rate_load (HPX.out.up HBC.out)) ?_)
     | (clear HM6; refine wpList_load_if (by rfl) 24 _ rfl (.pointer (some ⟨q, 0, none⟩)) rfl (rtVl b) (rate_load (HQX.out.up HBC.out)) ?_)
     | (go_at_call 30; refine (HSK.out _).mono ?_; rintro e w12 ⟨rfl, hb⟩; have hB3 := Lib.hid (HBC.out.trans (hb.mono HBC.out.size)); clear HBC; have HBC := hB3; clear hB3 hb; have ds_ := HPX.out.up HBC.out; have d3 := ds_.at 3 _ rfl; clear ds_))
    go_ret
    exact ⟨by first | rfl | simp, by have h9 := HBW.out _ HBC.out; first | exact h9 | (rw [← HS0.out]; exact h9)⟩
end Go.Proofs.Ytihgnnocagfdeaa
