/- Contracts and the law of RateOrder, part 1: what was proved of each, callees first. -/
import Derived.Laws.StructEq
import Derived.Deep.LoopGhost
import Derived.Deep.CutRange
import Derived.Test.YtihgnnocagfdeaaRT3
namespace Go.Proofs.Ytihgnnocagfdeaa
open Go.RowKit
structure A4 (w : World) (b o : Nat) (a : Acc) : Prop where
 c0 : w.cell? ⟨b, o, none⟩ = some (.int .i64 a.code)
 c1 : w.cell? ⟨b, o + 1, none⟩ = some (.int .i64 a.kind)
 c2 : w.cell? ⟨b, o + 2, none⟩ = some (.int .i64 a.basis)
 c3 : w.cell? ⟨b, o + 3, none⟩ = some (.int .i64 a.par)
section
variable {w w' : World} {b o g B : Nat} {a : Acc} {x : Bal} {A : Option Addr} {L : List Acc} {M : List Bal}
end
open Go.RowKit Go.Sort
def RowR (_w : World) (L : List Rt) (e : Ending) (w' : World) : Prop := ∃ A c, e = .returned (.slice A L.length c) ∧ RowAt lyT w' A L
theorem RowR.of {w w' : World} {L : List Rt} {e : Ending} (h : RowQ w L e w') : RowR w L e w' := by
 obtain ⟨A4, c4, h2, h3⟩ := h
 obtain ⟨A5, c5, e5, h5, _⟩ := h3.reads
 cases e5
 exact ⟨A4, c4, h2, h5⟩
theorem row_lt {w : World} {A : Option Addr} {L : List Rt} (h : RowAt lyT w A L) (h0 : 0 < L.length) {g o : Nat} (hA : A = some ⟨g, o, none⟩) : g < w.heap.size := by
 obtain ⟨b, off, e, hlt, _⟩ := h h0
 rw [hA] at e; cases e
 exact hlt
structure Two16 (W : World) (B : Nat) (P : Value) (j : TD) (H : List Rt) (Q : Value) (k : TD) (G : List Rt) : Prop where
 one : TP W B P j H
 two : TP W B Q k G
 ap : ∀ x, j.own H.length x → ¬ k.own G.length x
section
variable {W W' : World} {B : Nat} {P Q : Value} {j k j' k' : TD} {H G H' G' : List Rt}
theorem Two16.symm (h : Two16 W B P j H Q k G) : Two16 W B Q k G P j H := ⟨h.two, h.one, fun x h1 h2 => h.ap x h2 h1⟩
theorem Two16.up (h : Two16 W B P j H Q k G) (hb : Below W.heap.size W W') : Two16 W' B P j H Q k G := ⟨h.one.up hb, h.two.up hb, h.ap⟩
theorem Two16.left (h : Two16 W B P j H Q k G) (hm : GoP W W' B P j H j' H') : Two16 W' B P j' H' Q k G :=
 ⟨hm.tp, h.two.only hm.mv.only (fun x h1 h2 => h.ap x h2 h1), fun x h1 h2 => by
  rcases hm.mv.own h1 with h3 | h3
  ·exact h.ap x h3 h2
  ·have := (h.two.2.own_lt h2).2; omega⟩
theorem Two16.right (h : Two16 W B P j H Q k G) (hm : GoP W W' B Q k G k' G') : Two16 W' B P j H Q k' G' := (h.symm.left hm).symm
theorem Two16.mk2 (h : TP W B P j H) (h2 : TP W' W.heap.size Q k G) (hb : Below W.heap.size W W') (hB : B ≤ W.heap.size) : Two16 W' B P j H Q k G :=
 ⟨h.up hb, ⟨h2.1, h2.2.low hB⟩, fun x h3 h4 => by have := (h.2.own_lt h3).2; have := (h2.2.own_lt h4).1; omega⟩
end
theorem setO_any {P : Value} {j : TD} {H : List Rt} (A : Option Addr) (cp n : Nat) (L : List Rt) {B : Nat} {w2 W : World} (hnl : L.length = n) (hj : TP W B P j H) (hB : w2.heap.size ≤ B) (hBW : B ≤ W.heap.size) (hz : RowAt lyT w2 A L) (hbc : Below w2.heap.size w2 W) (hok : ∀ r ∈ L, okT r) (hn : H.length + n ≤ 900) :
  Calls Try.prog 29 #[P, .slice A n cp] W fun e w' => e = .returned (.tuple #[]) ∧ ∃ k, GoP W w' B P j H k (H ++ rtH j.g L) := by
 subst hnl
 exact setL_any A cp L hj hBW (hz.up hbc) (fun h0 g o hA hx => by
  have h1 := row_lt hz h0 hA
  have h2 := (hj.2.own_lt hx).1
  omega) hok hn
theorem setN_any {P : Value} {j : TD} {H : List Rt} (a b : Rt) {B : Nat} {w1 W : World} (hj : TP w1 B P j H) (hB : B ≤ w1.heap.size) (hbw : Below w1.heap.size w1 W) (hw : Wh 24 W w1.heap.size (lyT.all [a, b])) (ha : okT a) (hb : okT b) (hn : H.length ≤ 890) :
  Calls Try.prog 29 #[P, .slice (some ⟨w1.heap.size, 0, none⟩) 2 2] W fun e w' => e = .returned (.tuple #[]) ∧ ∃ k, GoP W w' B P j H k (H ++ rtH j.g [a, b]) :=
 setL_any (some ⟨w1.heap.size, 0, none⟩) 2 [a, b] (hj.up hbw) (Nat.le_trans hB hbw.size) (fun _ => ⟨w1.heap.size, 0, rfl, hw.lt, hw.range⟩) (fun _ g o hA hx => by
  cases hA
  have h2 := (hj.2.own_lt hx).2
  omega) (fun r hr => by
  rcases List.mem_cons.1 hr with rfl | hr
  ·exact ha
  ·rcases List.mem_cons.1 hr with rfl | hr
   ·exact hb
   ·cases hr) (by simp; omega)
theorem rt_swap (g : ByteArray) (H : List Rt) (a b : Rt) (h : a.1 ≠ b.1) : rtL (H ++ rtH g [a, b]) = rtL (H ++ rtH g [b, a]) ∧ (H ++ rtH g [a, b]).length = (H ++ rtH g [b, a]).length := by
 unfold rtH
 cases ha : rtP g a <;> cases hb : rtP g b <;> simp [ha, hb]
 have h1 := rtL_two (H := H) h
 simpa using h1
open Go.RowKit Go.Sort
def rtorF0 (g : ByteArray) (A : Option Addr) (n c s0 B2 : Nat) (a b : Rt) (_F : Bool) (_Kq : Bool) : List (Nat × AK.Fact (KpT 2)) := [(13, AK.Fact.is (.string g)), (14, nilF 2 B2), (15, AK.Fact.is (.slice A n c)), (16, AK.Fact.triv), (17, AK.Fact.is (.pointer (some ⟨s0, 0, none⟩))), (18, AK.Fact.is (rtVl a)), (19, AK.Fact.is (.pointer (some ⟨s0, 4, none⟩))), (20, AK.Fact.is (rtVl b)), (21, boxF [a, b]), (22, AK.Fact.triv), (23, AK.Fact.is (.bool false)), (24, AK.Fact.is (.bool true)), (25, AK.Fact.is (.bool true)), (26, AK.Fact.is (undef)), (27, AK.Fact.is (undef)), (28, AK.Fact.is (undef)), (29, AK.Fact.is (undef)), (30, AK.Fact.is (undef)), (31, AK.Fact.is (.bool true))]
def rtorF1 (g : ByteArray) (A : Option Addr) (n c s0 B2 : Nat) (a b : Rt) (_F : Bool) (Kq : Bool) : List (Nat × AK.Fact (KpT 2)) := [(13, AK.Fact.is (.string g)), (14, nilF 2 B2), (15, AK.Fact.is (.slice A n c)), (16, AK.Fact.triv), (17, AK.Fact.is (.pointer (some ⟨s0, 0, none⟩))), (18, AK.Fact.is (rtVl a)), (19, AK.Fact.is (.pointer (some ⟨s0, 4, none⟩))), (20, AK.Fact.is (rtVl b)), (21, boxF [a, b]), (22, AK.Fact.triv), (23, AK.Fact.is (.bool true)), (24, AK.Fact.is (.bool false)), (25, AK.Fact.is (.bool false)), (26, AK.Fact.is (.pointer (some ⟨s0, 0, none⟩))), (27, AK.Fact.is (rtVl a)), (28, AK.Fact.is (.pointer (some ⟨s0, 4, none⟩))), (29, AK.Fact.is (rtVl b)), (30, AK.Fact.is (.bool Kq)), (31, AK.Fact.is (.bool Kq))]
set_option maxRecDepth 100000 in
set_option maxHeartbeats 6400000 in
theorem law_rorder16 (g : ByteArray) (A : Option Addr) (n c : Nat) (L : List Rt) (a b : Rt) (w : World) (hgm : g.size ≤ maxLen) (hnl : L.length = n) (hnm : n ≤ 3518437208780) (hz : RowAt lyT w A L) (hok : ∀ s ∈ L, okT s) (hka : okT a) (hkb : okT b) :
  Calls Try.prog 8 #[.string g, .slice A n c, rt2V a b] w fun e w' => e = .returned (.bool true) ∧ Below w.heap.size w w' := by
 obtain ⟨i0, hi, hz1, hz2, hz3⟩ := info_parts infoT
 have HAW := Lib.hid awake16_any
 obtain ⟨s0, hs0⟩ : ∃ s0, w.heap.size = s0 := ⟨_, rfl⟩
 obtain ⟨w1, hw1⟩ : ∃ w1, w.alloc (.cells #[.string a.1.1, .int .i64 a.1.2.1, .int .i64 a.1.2.2, .int .i64 a.2, .string b.1.1, .int .i64 b.1.2.1, .int .i64 b.1.2.2, .int .i64 b.2] 46) = w1 := ⟨_, rfl⟩
 have HXB1 : Hid (Wh 46 w1 s0 (rtC a ++ rtC b)) := Lib.hid (by rw [← hw1, ← hs0]; exact Wh.new w _ _)
 have HB1 : Hid (Below w.heap.size w w1) := Lib.hid (by rw [← hw1]; exact below_alloc_new _)
 have HS0 := Lib.hid hs0
 have HNL := Lib.hid hnl
 have HZ1 := Lib.hid (hz.up HB1.out)
 have HOL := Lib.hid hok
 have HOA := Lib.hid hka
 have HOB := Lib.hid hkb
 have HGM := Lib.hid hgm
 have HNM := Lib.hid hnm
 clear hnl hz hok hka hkb hgm hnm
 have HM1 : Hid True := Lib.hid trivial
 have HM2 : Hid True := Lib.hid trivial
 have HM3 : Hid True := Lib.hid trivial
 have HM4 : Hid True := Lib.hid trivial
 have HM5 : Hid True := Lib.hid trivial
 have HM6 : Hid True := Lib.hid trivial
 have HM7 : Hid True := Lib.hid trivial
 have HM8 : Hid True := Lib.hid trivial
 have HM9 : Hid True := Lib.hid trivial
 have HM10 : Hid True := Lib.hid trivial
 have HM11 : Hid True := Lib.hid trivial
 have HM12 : Hid True := Lib.hid trivial
 go_enter Try.func8, Try.ntmps8
 go_upto_region 3 with (go_at_call 11; refine (HAW.out _).mono ?_; rintro e w2 ⟨rfl, hb⟩; have HB2 : Hid (Below w1.heap.size w1 w2) := Lib.hid hb; clear hb)
 have HXB : Hid (Wh 46 w2 s0 (rtC a ++ rtC b)) := Lib.hid (HXB1.out.up HB2.out)
 have HLA : Hid (∀ W, Below w2.heap.size w2 W → (Instr.loadAt 24 (.pointer (some ⟨s0, 0, none⟩))).run Try.prog W = .ok (rtVl a) W) := Lib.hid (fun W h => (HXB.out.up h).rg.load 0 24 (rtC a) rfl _ Try.underlying24 rfl (by kernel_rfl))
 have HLB : Hid (∀ W, Below w2.heap.size w2 W → (Instr.loadAt 24 (.pointer (some ⟨s0, 4, none⟩))).run Try.prog W = .ok (rtVl b) W) := Lib.hid (fun W h => (HXB.out.up h).rg.load 4 24 (rtC b) rfl _ Try.underlying24 rfl (by kernel_rfl))
 have HRL : Hid (RowAt lyT w2 A L) := Lib.hid (HZ1.out.up HB2.out)
 have HBW : Hid (∀ W, Below w2.heap.size w2 W → Below w.heap.size w W) := Lib.hid (fun W h => (HB1.out.trans (HB2.out.mono HB1.out.size)).trans (h.mono (Nat.le_trans HB1.out.size HB2.out.size)))
 obtain ⟨B2, hB2⟩ : ∃ B2, w2.heap.size = B2 := ⟨_, rfl⟩
 have HB2E := Lib.hid hB2
 obtain ⟨Lq, hLq⟩ : ∃ Lq, L ++ [a, b] = Lq := ⟨_, rfl⟩
 have HLQ := Lib.hid hLq
 obtain ⟨F, hF⟩ : ∃ F, fewT g Lq = F := ⟨_, rfl⟩
 have HFE := Lib.hid hF
 have HFW : Hid (∀ A9 c9 W, RowAt lyT W A9 Lq → Calls Try.prog 12 #[.string g, .slice A9 Lq.length c9] W fun e w' => e = .returned (.bool F) ∧ W = w') := Lib.hid (fun A9 c9 W h => by rw [← hF]; exact few16_any g A9 c9 Lq W h (by rw [← hLq, List.length_append, HNL.out]; have := HNM.out; simp; omega))
 clear hB2 hLq hF
 obtain ⟨Kq, hK9⟩ : ∃ Kq, decide (a.1 = b.1) = Kq := ⟨_, rfl⟩
 have HSK : Hid (∀ W, Calls Try.prog 30 #[rtVl a, rtVl b] W fun e w' => e = .returned (.bool Kq) ∧ Below W.heap.size W w') := Lib.hid (fun W => by rw [← hK9]; exact sameKey_any a b W)
 have HKE := Lib.hid hK9
 clear hK9
 cases F
 ·refine AK.region_facts (Rp := Below0) (Kp := KpT 2) (rtorF0 g A n c s0 B2 a b false Kq) (rhJ w2 L Lq) [[], [], [], [14, 15], [], [17], [], [19], [18, 20], [16, 21], [13, 22], [23], [24], [25], [25], [25], [25], [25], [25, 30]] [3, 9] [[], [16], [22]] [2, 2, 2, 2, 2, 2, 2, 2, 2, 2, 2, 2, 2, 2, 2, 2, 2, 2, 2] [0, 0, 0, 0, 0, 0, 0, 0, 0, 0, 2, 0, 0, 0, 0, 0, 0, 0, 0] [] (fun u => by simp only [rtorF0, AK.temps, List.map_cons, List.map_nil, fillL, List.setIfInBounds_toArray, List.set_cons_zero, List.set_cons_succ]; rfl) (by kernel_rfl) (by kernel_rfl) (fun _ _ h => h.1) (fun _ _ h => KpT.of h) (rhJ.st _ _ _) (dc_drew (Below.refl _ _)) ?_ ?_
  ·refine AK.sc (lim := 2) (lo := 0) rfl rfl rfl rfl ?_ ?_
   ·intro k_ u w_ hk_ hl_ hJ hF K hK
    clear hF
    go_simp
    exact hK.out _ _ (Below.refl _ _) (rfl) trivial
   refine AK.sc (lim := 2) (lo := 0) rfl rfl rfl rfl ?_ ?_
   ·intro k_ u w_ hk_ hl_ hJ hF K hK
    clear hF
    go_simp
    have hb9 := rhJ.low hJ
    exact hK.out _ _ (below_alloc_new _) (nilT_new (by rw [← HB2E.out]; exact hb9.size)) trivial
   refine AK.sc (lim := 2) (lo := 0) rfl rfl rfl rfl ?_ ?_
   ·intro k_ u w_ hk_ hl_ hJ hF K hK
    clear hF
    go_simp
    exact hK.out _ _ (Below.refl _ _) (rfl) trivial
   refine AK.ss rfl rfl ?_ ?_
   ·intro u w_ hJ hA_ hF K hK
    have h14 : NilT B2 (u 14) w_ := AK.facts_get hF 14 (by simp)
    have h15 : u 15 = .slice A n c := AK.facts_get hF 15 (by simp)
    clear hF
    simp only [h15] at hK ⊢
    clear h15
    have hb9 := rhJ.low hJ
    refine wp_app_copy (.tmp 14) (.tmp 15) 22 rfl i0 _ Try.underlying22 hi hz1 hz2 hz3 rfl rfl h14 A n c L HNL.out rfl (HRL.out.up hb9) (by have := HNM.out; omega) (by rw [← HB2E.out]; exact hb9.size) ?_
    intro v' w' ho' hb'
    rw [← HB2E.out] at ho'
    exact hK.out _ _ ⟨Below.trans hb9 (hb'.mono hb9.size), fun v hv => by cases hv; exact ho'⟩ (KpT.of hb') trivial
   refine AK.sc (lim := 2) (lo := 0) rfl rfl rfl rfl ?_ ?_
   ·intro k_ u w_ hk_ hl_ hJ hF K hK
    clear hF
    go_simp
    exact hK.out _ _ (Below.refl _ _) (rfl) trivial
   refine AK.sc (lim := 2) (lo := 0) rfl rfl rfl rfl ?_ ?_
   ·intro k_ u w_ hk_ hl_ hJ hF K hK
    have h17 : u 17 = .pointer (some ⟨s0, 0, none⟩) := AK.facts_get hF 17 (by simp)
    clear hF
    simp only [h17] at hK ⊢
    clear h17
    have hb9 := rhJ.low hJ
    refine wp_load_is 24 _ rfl _ rfl (rtVl a) (HLA.out _ hb9) ?_
    exact hK.out _ _ (Below.refl _ _) (rfl) trivial
   refine AK.sc (lim := 2) (lo := 0) rfl rfl rfl rfl ?_ ?_
   ·intro k_ u w_ hk_ hl_ hJ hF K hK
    clear hF
    go_simp
    exact hK.out _ _ (Below.refl _ _) (rfl) trivial
   refine AK.sc (lim := 2) (lo := 0) rfl rfl rfl rfl ?_ ?_
   ·intro k_ u w_ hk_ hl_ hJ hF K hK
    have h19 : u 19 = .pointer (some ⟨s0, 4, none⟩) := AK.facts_get hF 19 (by simp)
    clear hF
    simp only [h19] at hK ⊢
    clear h19
    have hb9 := rhJ.low hJ
    refine wp_load_is 24 _ rfl _ rfl (rtVl b) (HLB.out _ hb9) ?_
    exact hK.out _ _ (Below.refl _ _) (rfl) trivial
   refine AK.sc (lim := 2) (lo := 0) rfl rfl rfl rfl ?_ ?_
   ·intro k_ u w_ hk_ hl_ hJ hF K hK
    have h18 : u 18 = rtVl a := AK.facts_get hF 18 (by simp)
    have h20 : u 20 = rtVl b := AK.facts_get hF 20 (by simp)
    clear hF
    simp only [h18, h20] at hK ⊢
    clear h18 h20
    go_simp
    exact hK.out _ _ (below_alloc_new _) ⟨_, rfl, Wh.new w_ 24 (lyT.all [a, b])⟩ trivial
   refine AK.ss rfl rfl ?_ ?_
   ·intro u w_ hJ hA_ hF K hK
    have h21 : BoxT [a, b] (u 21) w_ := AK.facts_get hF 21 (by simp)
    clear hF
    obtain ⟨b21, h21, hw21⟩ := h21
    have hv9 := hJ.2 _ rfl
    simp only [h21] at hK ⊢
    clear h21
    refine wp_app_few (.tmp 16) (.tmp 21) 22 rfl i0 _ Try.underlying22 hi hz1 hz2 hz3 rfl rfl hv9 b21 2 [a, b] rfl (by decide) rfl hw21 (by have := HNL.out; have := HNM.out; omega) hJ.1.size ?_
    intro v' w' ho' hk' hb'
    rw [HLQ.out] at ho'
    exact hK.out _ _ ⟨hJ.1.trans hb', fun v hv => by cases hv; exact ho'⟩ hk' trivial
   refine AK.sc (lim := 2) (lo := 2) rfl rfl rfl rfl ?_ ?_
   ·intro k_ u w_ hk_ hl_ hJ hF K hK
    obtain rfl : k_ = 2 := by omega
    have h13 : u 13 = .string g := AK.facts_get hF 13 (by simp)
    clear hF
    have hv9 := hJ.2 _ rfl
    obtain ⟨A9, c9, e9, hr9, -⟩ := hv9.reads
    simp only [h13, e9] at hK ⊢
    clear h13 e9
    go_simp
    refine (HFW.out A9 c9 w_ hr9).mono ?_
    rintro e w6 ⟨rfl, rfl⟩
    exact hK.out _ _ (Below.refl _ _) (rfl) trivial
   refine AK.sc (lim := 2) (lo := 0) rfl rfl rfl rfl ?_ ?_
   ·intro k_ u w_ hk_ hl_ hJ hF K hK
    have h23 : u 23 = .bool false := AK.facts_get hF 23 (by simp)
    clear hF
    simp only [h23] at hK ⊢
    clear h23
    go_simp
    exact hK.out _ _ (Below.refl _ _) (rfl) trivial
   refine AK.sc (lim := 2) (lo := 0) rfl rfl rfl rfl ?_ ?_
   ·intro k_ u w_ hk_ hl_ hJ hF K hK
    have h24 : u 24 = .bool true := AK.facts_get hF 24 (by simp)
    clear hF
    simp only [h24] at hK ⊢
    clear h24
    go_simp
    exact hK.out _ _ (Below.refl _ _) (rfl) trivial
   refine AK.sc (lim := 2) (lo := 0) rfl rfl rfl rfl ?_ ?_
   ·intro k_ u w_ hk_ hl_ hJ hF K hK
    have h25 : u 25 = .bool true := AK.facts_get hF 25 (by simp)
    clear hF
    simp only [h25] at hK ⊢
    clear h25
    go_simp
    exact hK.out _ _ (Below.refl _ _) (rfl) trivial
   refine AK.sc (lim := 2) (lo := 0) rfl rfl rfl rfl ?_ ?_
   ·intro k_ u w_ hk_ hl_ hJ hF K hK
    have h25 : u 25 = .bool true := AK.facts_get hF 25 (by simp)
    clear hF
    simp only [h25] at hK ⊢
    clear h25
    go_simp
    exact hK.out _ _ (Below.refl _ _) (rfl) trivial
   refine AK.sc (lim := 2) (lo := 0) rfl rfl rfl rfl ?_ ?_
   ·intro k_ u w_ hk_ hl_ hJ hF K hK
    have h25 : u 25 = .bool true := AK.facts_get hF 25 (by simp)
    clear hF
    simp only [h25] at hK ⊢
    clear h25
    go_simp
    exact hK.out _ _ (Below.refl _ _) (rfl) trivial
   refine AK.sc (lim := 2) (lo := 0) rfl rfl rfl rfl ?_ ?_
   ·intro k_ u w_ hk_ hl_ hJ hF K hK
    have h25 : u 25 = .bool true := AK.facts_get hF 25 (by simp)
    clear hF
    simp only [h25] at hK ⊢
    clear h25
    go_simp
    exact hK.out _ _ (Below.refl _ _) (rfl) trivial
   refine AK.sc (lim := 2) (lo := 0) rfl rfl rfl rfl ?_ ?_
   ·intro k_ u w_ hk_ hl_ hJ hF K hK
    have h25 : u 25 = .bool true := AK.facts_get hF 25 (by simp)
    clear hF
    simp only [h25] at hK ⊢
    clear h25
    go_simp
    exact hK.out _ _ (Below.refl _ _) (rfl) trivial
   refine AK.sc (lim := 2) (lo := 0) rfl rfl rfl rfl ?_ ?_
   ·intro k_ u w_ hk_ hl_ hJ hF K hK
    have h25 : u 25 = .bool true := AK.facts_get hF 25 (by simp)
    have h30 : u 30 = undef := AK.facts_get hF 30 (by simp)
    clear hF
    simp only [h25, h30] at hK ⊢
    clear h25 h30
    go_simp
    exact hK.out _ _ (Below.refl _ _) (rfl) trivial
   exact AK.StepsOk.nil
  ·intro u W9 hJ9 hF
   have h31 : u 31 = .bool true := AK.facts_get hF 31 (by simp [rtorF0, AK.temps])
   clear hF
   have HBC : Hid (Below w2.heap.size w2 W9) := Lib.hid hJ9.1
   clear hJ9
   simp only [h31]
   go_wp2_with fail
   go_ret
   exact ⟨rfl, by have h9 := HBW.out _ HBC.out; first | exact h9 | (rw [← HS0.out]; exact h9)⟩
 refine AK.region_facts (Rp := Below0) (Kp := KpT 2) (rtorF1 g A n c s0 B2 a b true Kq) (rhJ w2 L Lq) [[], [], [], [14, 15], [], [17], [], [19], [18, 20], [16, 21], [13, 22], [23], [24], [25], [26, 25], [25], [28, 25], [27, 29, 25], [25, 30]] [3, 9] [[], [16], [22]] [2, 2, 2, 2, 2, 2, 2, 2, 2, 2, 2, 2, 2, 2, 2, 2, 2, 2, 2] [0, 0, 0, 0, 0, 0, 0, 0, 0, 0, 2, 0, 0, 0, 0, 0, 0, 0, 0] [] (fun u => by simp only [rtorF1, AK.temps, List.map_cons, List.map_nil, fillL, List.setIfInBounds_toArray, List.set_cons_zero, List.set_cons_succ]; rfl) (by kernel_rfl) (by kernel_rfl) (fun _ _ h => h.1) (fun _ _ h => KpT.of h) (rhJ.st _ _ _) (dc_drew (Below.refl _ _)) ?_ ?_
 ·refine AK.sc (lim := 2) (lo := 0) rfl rfl rfl rfl ?_ ?_
  ·intro k_ u w_ hk_ hl_ hJ hF K hK
   clear hF
   go_simp
   exact hK.out _ _ (Below.refl _ _) (rfl) trivial
  refine AK.sc (lim := 2) (lo := 0) rfl rfl rfl rfl ?_ ?_
  ·intro k_ u w_ hk_ hl_ hJ hF K hK
   clear hF
   go_simp
   have hb9 := rhJ.low hJ
   exact hK.out _ _ (below_alloc_new _) (nilT_new (by rw [← HB2E.out]; exact hb9.size)) trivial
  refine AK.sc (lim := 2) (lo := 0) rfl rfl rfl rfl ?_ ?_
  ·intro k_ u w_ hk_ hl_ hJ hF K hK
   clear hF
   go_simp
   exact hK.out _ _ (Below.refl _ _) (rfl) trivial
  refine AK.ss rfl rfl ?_ ?_
  ·intro u w_ hJ hA_ hF K hK
   have h14 : NilT B2 (u 14) w_ := AK.facts_get hF 14 (by simp)
   have h15 : u 15 = .slice A n c := AK.facts_get hF 15 (by simp)
   clear hF
   simp only [h15] at hK ⊢
   clear h15
   have hb9 := rhJ.low hJ
   refine wp_app_copy (.tmp 14) (.tmp 15) 22 rfl i0 _ Try.underlying22 hi hz1 hz2 hz3 rfl rfl h14 A n c L HNL.out rfl (HRL.out.up hb9) (by have := HNM.out; omega) (by rw [← HB2E.out]; exact hb9.size) ?_
   intro v' w' ho' hb'
   rw [← HB2E.out] at ho'
   exact hK.out _ _ ⟨Below.trans hb9 (hb'.mono hb9.size), fun v hv => by cases hv; exact ho'⟩ (KpT.of hb') trivial
  refine AK.sc (lim := 2) (lo := 0) rfl rfl rfl rfl ?_ ?_
  ·intro k_ u w_ hk_ hl_ hJ hF K hK
   clear hF
   go_simp
   exact hK.out _ _ (Below.refl _ _) (rfl) trivial
  refine AK.sc (lim := 2) (lo := 0) rfl rfl rfl rfl ?_ ?_
  ·intro k_ u w_ hk_ hl_ hJ hF K hK
   have h17 : u 17 = .pointer (some ⟨s0, 0, none⟩) := AK.facts_get hF 17 (by simp)
   clear hF
   simp only [h17] at hK ⊢
   clear h17
   have hb9 := rhJ.low hJ
   refine wp_load_is 24 _ rfl _ rfl (rtVl a) (HLA.out _ hb9) ?_
   exact hK.out _ _ (Below.refl _ _) (rfl) trivial
  refine AK.sc (lim := 2) (lo := 0) rfl rfl rfl rfl ?_ ?_
  ·intro k_ u w_ hk_ hl_ hJ hF K hK
   clear hF
   go_simp
   exact hK.out _ _ (Below.refl _ _) (rfl) trivial
  refine AK.sc (lim := 2) (lo := 0) rfl rfl rfl rfl ?_ ?_
  ·intro k_ u w_ hk_ hl_ hJ hF K hK
   have h19 : u 19 = .pointer (some ⟨s0, 4, none⟩) := AK.facts_get hF 19 (by simp)
   clear hF
   simp only [h19] at hK ⊢
   clear h19
   have hb9 := rhJ.low hJ
   refine wp_load_is 24 _ rfl _ rfl (rtVl b) (HLB.out _ hb9) ?_
   exact hK.out _ _ (Below.refl _ _) (rfl) trivial
  refine AK.sc (lim := 2) (lo := 0) rfl rfl rfl rfl ?_ ?_
  ·intro k_ u w_ hk_ hl_ hJ hF K hK
   have h18 : u 18 = rtVl a := AK.facts_get hF 18 (by simp)
   have h20 : u 20 = rtVl b := AK.facts_get hF 20 (by simp)
   clear hF
   simp only [h18, h20] at hK ⊢
   clear h18 h20
   go_simp
   exact hK.out _ _ (below_alloc_new _) ⟨_, rfl, Wh.new w_ 24 (lyT.all [a, b])⟩ trivial
  refine AK.ss rfl rfl ?_ ?_
  ·intro u w_ hJ hA_ hF K hK
   have h21 : BoxT [a, b] (u 21) w_ := AK.facts_get hF 21 (by simp)
   clear hF
   obtain ⟨b21, h21, hw21⟩ := h21
   have hv9 := hJ.2 _ rfl
   simp only [h21] at hK ⊢
   clear h21
   refine wp_app_few (.tmp 16) (.tmp 21) 22 rfl i0 _ Try.underlying22 hi hz1 hz2 hz3 rfl rfl hv9 b21 2 [a, b] rfl (by decide) rfl hw21 (by have := HNL.out; have := HNM.out; omega) hJ.1.size ?_
   intro v' w' ho' hk' hb'
   rw [HLQ.out] at ho'
   exact hK.out _ _ ⟨hJ.1.trans hb', fun v hv => by cases hv; exact ho'⟩ hk' trivial
  refine AK.sc (lim := 2) (lo := 2) rfl rfl rfl rfl ?_ ?_
  ·intro k_ u w_ hk_ hl_ hJ hF K hK
   obtain rfl : k_ = 2 := by omega
   have h13 : u 13 = .string g := AK.facts_get hF 13 (by simp)
   clear hF
   have hv9 := hJ.2 _ rfl
   obtain ⟨A9, c9, e9, hr9, -⟩ := hv9.reads
   simp only [h13, e9] at hK ⊢
   clear h13 e9
   go_simp
   refine (HFW.out A9 c9 w_ hr9).mono ?_
   rintro e w6 ⟨rfl, rfl⟩
   exact hK.out _ _ (Below.refl _ _) (rfl) trivial
  refine AK.sc (lim := 2) (lo := 0) rfl rfl rfl rfl ?_ ?_
  ·intro k_ u w_ hk_ hl_ hJ hF K hK
   have h23 : u 23 = .bool true := AK.facts_get hF 23 (by simp)
   clear hF
   simp only [h23] at hK ⊢
   clear h23
   go_simp
   exact hK.out _ _ (Below.refl _ _) (rfl) trivial
  refine AK.sc (lim := 2) (lo := 0) rfl rfl rfl rfl ?_ ?_
  ·intro k_ u w_ hk_ hl_ hJ hF K hK
   have h24 : u 24 = .bool false := AK.facts_get hF 24 (by simp)
   clear hF
   simp only [h24] at hK ⊢
   clear h24
   go_simp
   exact hK.out _ _ (Below.refl _ _) (rfl) trivial
  refine AK.sc (lim := 2) (lo := 0) rfl rfl rfl rfl ?_ ?_
  ·intro k_ u w_ hk_ hl_ hJ hF K hK
   have h25 : u 25 = .bool false := AK.facts_get hF 25 (by simp)
   clear hF
   simp only [h25] at hK ⊢
   clear h25
   go_simp
   exact hK.out _ _ (Below.refl _ _) (rfl) trivial
  refine AK.sc (lim := 2) (lo := 0) rfl rfl rfl rfl ?_ ?_
  ·intro k_ u w_ hk_ hl_ hJ hF K hK
   have h26 : u 26 = .pointer (some ⟨s0, 0, none⟩) := AK.facts_get hF 26 (by simp)
   have h25 : u 25 = .bool false := AK.facts_get hF 25 (by simp)
   clear hF
   simp only [h26, h25] at hK ⊢
   clear h26 h25
   have hb9 := rhJ.low hJ
   refine wp_load_is 24 _ rfl _ rfl (rtVl a) (HLA.out _ hb9) ?_
   exact hK.out _ _ (Below.refl _ _) (rfl) trivial
  refine AK.sc (lim := 2) (lo := 0) rfl rfl rfl rfl ?_ ?_
  ·intro k_ u w_ hk_ hl_ hJ hF K hK
   have h25 : u 25 = .bool false := AK.facts_get hF 25 (by simp)
   clear hF
   simp only [h25] at hK ⊢
   clear h25
   go_simp
   exact hK.out _ _ (Below.refl _ _) (rfl) trivial
  refine AK.sc (lim := 2) (lo := 0) rfl rfl rfl rfl ?_ ?_
  ·intro k_ u w_ hk_ hl_ hJ hF K hK
   have h28 : u 28 = .pointer (some ⟨s0, 4, none⟩) := AK.facts_get hF 28 (by simp)
   have h25 : u 25 = .bool false := AK.facts_get hF 25 (by simp)
   clear hF
   simp only [h28, h25] at hK ⊢
   clear h28 h25
   have hb9 := rhJ.low hJ
   refine wp_load_is 24 _ rfl _ rfl (rtVl b) (HLB.out _ hb9) ?_
   exact hK.out _ _ (Below.refl _ _) (rfl) trivial
  refine AK.sc (lim := 2) (lo := 0) rfl rfl rfl rfl ?_ ?_
  ·intro k_ u w_ hk_ hl_ hJ hF K hK
   have h27 : u 27 = rtVl a := AK.facts_get hF 27 (by simp)
   have h29 : u 29 = rtVl b := AK.facts_get hF 29 (by simp)
   have h25 : u 25 = .bool false := AK.facts_get hF 25 (by simp)
   clear hF
   simp only [h27, h29, h25] at hK ⊢
   clear h27 h29 h25
   go_simp
   refine (HSK.out w_).mono ?_
   rintro e w6 ⟨rfl, hb6⟩
   exact hK.out _ _ hb6 (rfl) trivial
  refine AK.sc (lim := 2) (lo := 0) rfl rfl rfl rfl ?_ ?_
  ·intro k_ u w_ hk_ hl_ hJ hF K hK
   have h25 : u 25 = .bool false := AK.facts_get hF 25 (by simp)
   have h30 : u 30 = .bool Kq := AK.facts_get hF 30 (by simp)
   clear hF
   simp only [h25, h30] at hK ⊢
   clear h25 h30
   go_simp
   exact hK.out _ _ (Below.refl _ _) (rfl) trivial
  exact AK.StepsOk.nil
 ·intro u W9 hJ9 hF
  have h31 : u 31 = .bool Kq := AK.facts_get hF 31 (by simp [rtorF1, AK.temps])
  clear hF
  have HBC : Hid (Below w2.heap.size w2 W9) := Lib.hid hJ9.1
  clear hJ9
  simp only [h31]
  cases Kq
  rotate_left
  ·go_wp2_with fail
   go_ret
   exact ⟨rfl, by have h9 := HBW.out _ HBC.out; first | exact h9 | (rw [← HS0.out]; exact h9)⟩
  have hn2 : n ≤ 200 := by rw [← HNL.out]; exact fewT_pre (g := g) (M := [a, b]) (by rw [HLQ.out]; exact HFE.out)
  have HN2 := Lib.hid hn2
  clear hn2
  have HNK : Hid (a.1 ≠ b.1) := Lib.hid (of_decide_eq_false HKE.out)
  by_cases hcu : curB g = true
  rotate_left
  ·have HNW : Hid (∀ W, Calls Try.prog 19 #[.string g] W fun e w' => e = .returned (.tuple #[.pointer none, .int .i64 1]) ∧ Below W.heap.size W w') := Lib.hid (fun W => (nwT_any g W).mono fun e w' h => ⟨by have h1 := h.1; unfold NwT at h1; rw [if_neg hcu] at h1; exact h1, h.2⟩)
   clear hcu
   go_wp2_with (go_at_call 19; refine (HNW.out _).mono ?_; rintro e w3 ⟨rfl, hb⟩; have hB3 := Lib.hid (HBC.out.trans (hb.mono HBC.out.size)); clear HBC; have HBC := hB3; clear hB3 hb)
   go_ret
   exact ⟨by first | rfl | simp, by have h9 := HBW.out _ HBC.out; first | exact h9 | (rw [← HS0.out]; exact h9)⟩
  have HNW : Hid (∀ W, Calls Try.prog 19 #[.string g] W fun e w' => (∃ (b : Nat) (j : TD), e = .returned (.tuple #[.pointer (some ⟨b, 0, none⟩), .int .i64 0]) ∧ TP w' W.heap.size (.pointer (some ⟨b, 0, none⟩)) j [] ∧ j.g = g) ∧ Below W.heap.size W w') := Lib.hid (fun W => (nwT_any g W).mono fun e w' h => ⟨by have h1 := h.1; unfold NwT at h1; rw [if_pos hcu] at h1; exact h1, h.2⟩)
  clear hcu
  go_upto_region 11 with (first
   | (clear HM1; go_at_call 19; refine (HNW.out _).mono ?_; rintro e w3 ⟨⟨b3, j, rfl, hj, hg⟩, hb⟩; have HJ3 := Lib.hid (show TP w3 w2.heap.size _ j [] from ⟨hj.1, hj.2.low HBC.out.size⟩); have HGJ := Lib.hid hg; clear hj hg; have hB3 := Lib.hid (HBC.out.trans (hb.mono HBC.out.size)); clear HBC; have HBC := hB3; clear hB3 hb)
   | (clear HM2; go_at_call 19; refine (HNW.out _).mono ?_; rintro e w4 ⟨⟨b4, k, rfl, hj, hg⟩, hb⟩; have HTW := Lib.hid (Two16.mk2 HJ3.out hj hb HBC.out.size); have HGK := Lib.hid hg; clear hj hg; have hB3 := Lib.hid (HBC.out.trans (hb.mono HBC.out.size)); clear HBC; have HBC := hB3; clear hB3 hb)
   | (clear HM3; go_at_call 29; refine (setO_any A c n L HNL.out HTW.out.one (Nat.le_refl _) HBC.out.size HRL.out HBC.out HOL.out (by have := HN2.out; simp; omega)).mono ?_; rintro e w5 ⟨rfl, j5, hm⟩; have ht_ := Lib.hid (HTW.out.left hm); have HG5 := Lib.hid hm.g; have hB3 := Lib.hid (HBC.out.trans (hm.below HTW.out.one HBC.out.size)); clear HBC; have HBC := hB3; clear hB3; clear hm HTW; have HTW := ht_; clear ht_)
   | (clear HM4; go_at_call 29; refine (setO_any A c n L HNL.out HTW.out.two (Nat.le_refl _) HBC.out.size HRL.out HBC.out HOL.out (by have := HN2.out; simp; omega)).mono ?_; rintro e w6 ⟨rfl, k6, hm⟩; have ht_ := Lib.hid (HTW.out.right hm); have HG6 := Lib.hid hm.g; have hB3 := Lib.hid (HBC.out.trans (hm.below HTW.out.two HBC.out.size)); clear HBC; have HBC := hB3; clear hB3; clear hm HTW; have HTW := ht_; clear ht_))
  obtain ⟨H1, hH1⟩ : ∃ H1, [] ++ rtH j.g L = H1 := ⟨_, rfl⟩
  have hH2 : [] ++ rtH k.g L = H1 := by rw [HGK.out, ← HGJ.out]; exact hH1
  rw [hH1, hH2] at HTW
  have HHL : Hid (H1.length ≤ 200) := Lib.hid (by rw [← hH1]; have h1 := rtH_len j.g L; have := HNL.out; have := HN2.out; simp; omega)
  clear hH1 hH2
  obtain ⟨s7, hs7⟩ : ∃ s7, w6.heap.size = s7 := ⟨_, rfl⟩
  obtain ⟨w7, hw7⟩ : ∃ w7, w6.alloc (.cells #[.string a.1.1, .int .i64 a.1.2.1, .int .i64 a.1.2.2, .int .i64 a.2, .string b.1.1, .int .i64 b.1.2.1, .int .i64 b.1.2.2, .int .i64 b.2] 24) = w7 := ⟨_, rfl⟩
  have HB7 : Hid (Below w6.heap.size w6 w7) := Lib.hid (by rw [← hw7]; exact below_alloc_new _)
  have HX7 : Hid (Wh 24 w7 w6.heap.size (lyT.all [a, b])) := Lib.hid (by rw [← hw7]; exact Wh.new w6 24 (lyT.all [a, b]))
  have HS1 : Hid (Calls Try.prog 29 #[.pointer (some ⟨b3, 0, none⟩), .slice (some ⟨s7, 0, none⟩) 2 2] w7 fun e w' => e = .returned (.tuple #[]) ∧ ∃ x, GoP w7 w' w2.heap.size (.pointer (some ⟨b3, 0, none⟩)) j5 H1 x (H1 ++ rtH g [a, b])) := Lib.hid (by
   rw [← hs7, ← HGJ.out, ← HG5.out]
   exact setN_any a b HTW.out.one HBC.out.size HB7.out HX7.out HOA.out HOB.out (by have := HHL.out; omega))
  have ht7 := Lib.hid (HTW.out.up HB7.out)
  have HLA6 := Lib.hid (HLA.out _ HBC.out)
  have HLB6 := Lib.hid (HLB.out _ HBC.out)
  have hbc7 := Lib.hid (HBC.out.trans (HB7.out.mono HBC.out.size))
  clear HTW HBC
  have HTW := ht7
  have HBC := hbc7
  clear ht7 hbc7
  go_upto_region 12 with (first
   | (refine wpList_load_is rfl 24 _ rfl (.pointer (some ⟨s0, 0, none⟩)) rfl (rtVl a) HLA6.out ?_)
   | (refine wpList_load_is rfl 24 _ rfl (.pointer (some ⟨s0, 4, none⟩)) rfl (rtVl b) HLB6.out ?_)
   | (go_at_call 29; refine HS1.out.mono ?_; rintro e w8 ⟨rfl, j8, hm⟩; have ht_ := Lib.hid (HTW.out.left hm); have hB3 := Lib.hid (HBC.out.trans (hm.below HTW.out.one HBC.out.size)); clear HBC; have HBC := hB3; clear hB3; clear hm HTW; have HTW := ht_; clear ht_))
  obtain ⟨s9, hs9⟩ : ∃ s9, w8.heap.size = s9 := ⟨_, rfl⟩
  obtain ⟨w9, hw9⟩ : ∃ w9, w8.alloc (.cells #[.string b.1.1, .int .i64 b.1.2.1, .int .i64 b.1.2.2, .int .i64 b.2, .string a.1.1, .int .i64 a.1.2.1, .int .i64 a.1.2.2, .int .i64 a.2] 24) = w9 := ⟨_, rfl⟩
  have HB9 : Hid (Below w8.heap.size w8 w9) := Lib.hid (by rw [← hw9]; exact below_alloc_new _)
  have HX9 : Hid (Wh 24 w9 w8.heap.size (lyT.all [b, a])) := Lib.hid (by rw [← hw9]; exact Wh.new w8 24 (lyT.all [b, a]))
  have HS2 : Hid (Calls Try.prog 29 #[.pointer (some ⟨b4, 0, none⟩), .slice (some ⟨s9, 0, none⟩) 2 2] w9 fun e w' => e = .returned (.tuple #[]) ∧ ∃ x, GoP w9 w' w2.heap.size (.pointer (some ⟨b4, 0, none⟩)) k6 H1 x (H1 ++ rtH g [b, a])) := Lib.hid (by
   rw [← hs9, ← HGK.out, ← HG6.out]
   exact setN_any b a HTW.out.two HBC.out.size HB9.out HX9.out HOB.out HOA.out (by have := HHL.out; omega))
  have ht9 := Lib.hid (HTW.out.up HB9.out)
  have HLA8 := Lib.hid (HLA.out _ HBC.out)
  have HLB8 := Lib.hid (HLB.out _ HBC.out)
  have hbc9 := Lib.hid (HBC.out.trans (HB9.out.mono HBC.out.size))
  clear HTW HBC HLA6 HLB6
  have HTW := ht9
  have HBC := hbc9
  clear ht9 hbc9
  go_upto_region 13 with (first
   | (refine wpList_load_is rfl 24 _ rfl (.pointer (some ⟨s0, 0, none⟩)) rfl (rtVl a) HLA8.out ?_)
   | (refine wpList_load_is rfl 24 _ rfl (.pointer (some ⟨s0, 4, none⟩)) rfl (rtVl b) HLB8.out ?_)
   | (go_at_call 29; refine HS2.out.mono ?_; rintro e w10 ⟨rfl, k10, hm⟩; have ht_ := Lib.hid (HTW.out.right hm); have hB3 := Lib.hid (HBC.out.trans (hm.below HTW.out.two HBC.out.size)); clear HBC; have HBC := hB3; clear hB3; clear hm HTW; have HTW := ht_; clear ht_))
  have hsw := rt_swap g H1 a b HNK.out
  obtain ⟨HA, hHA⟩ : ∃ HA, H1 ++ rtH g [a, b] = HA := ⟨_, rfl⟩
  obtain ⟨HBb, hHB⟩ : ∃ HBb, H1 ++ rtH g [b, a] = HBb := ⟨_, rfl⟩
  have hla : HA.length ≤ 300 := by
   rw [← hHA, List.length_append]
   have h1 := rtH_len g [a, b]
   have := HHL.out
   simp at h1; omega
  rw [hHA, hHB] at hsw
  rw [hHA, hHB] at HTW
  have HLI1 : Hid (∀ W, TP W w2.heap.size (.pointer (some ⟨b3, 0, none⟩)) j8 HA → Calls Try.prog 28 #[.pointer (some ⟨b3, 0, none⟩)] W fun e w' => RowR W (rtL HA) e w' ∧ Below W.heap.size W w') := Lib.hid (fun W h => (listP_any h (by omega)).mono fun e w' h1 => ⟨RowR.of h1.1, h1.2⟩)
  have HLI2 : Hid (∀ W, TP W w2.heap.size (.pointer (some ⟨b4, 0, none⟩)) k10 HBb → Calls Try.prog 28 #[.pointer (some ⟨b4, 0, none⟩)] W fun e w' => RowR W (rtL HA) e w' ∧ Below W.heap.size W w') := Lib.hid (fun W h => by
   have h2 := listP_any h (by rw [← hsw.2]; omega)
   rw [← hsw.1] at h2
   exact h2.mono fun e w' h1 => ⟨RowR.of h1.1, h1.2⟩)
  have HHI1 : Hid (∀ W, TP W w2.heap.size (.pointer (some ⟨b3, 0, none⟩)) j8 HA → Calls Try.prog 26 #[.pointer (some ⟨b3, 0, none⟩)] W fun e w' => (∃ A4 c4, e = .returned (.slice A4 HA.length c4)) ∧ Below W.heap.size W w') := Lib.hid (fun W h => (hisP_any h (by omega)).mono fun e w' h1 => ⟨by obtain ⟨A4, c4, h2, _⟩ := h1.1; exact ⟨A4, c4, h2⟩, h1.2⟩)
  have HHI2 : Hid (∀ W, TP W w2.heap.size (.pointer (some ⟨b4, 0, none⟩)) k10 HBb → Calls Try.prog 26 #[.pointer (some ⟨b4, 0, none⟩)] W fun e w' => (∃ A4 c4, e = .returned (.slice A4 HA.length c4)) ∧ Below W.heap.size W w') := Lib.hid (fun W h => (hisP_any h (by rw [← hsw.2]; omega)).mono fun e w' h1 => ⟨by obtain ⟨A4, c4, h2, _⟩ := h1.1; rw [hsw.2]; exact ⟨A4, c4, h2⟩, h1.2⟩)
  obtain ⟨R, hR⟩ : ∃ R, rtL HA = R := ⟨_, rfl⟩
  have hrl : R.length ≤ 300 := by rw [← hR]; exact Nat.le_trans (rtL_len HA) hla
  have HRLN := Lib.hid hrl
  rw [hR] at HLI1 HLI2
  have HSA : Hid (∀ A4 c4 A5 c5 W, RowAt lyT W A4 R → RowAt lyT W A5 R → Calls Try.prog 25 #[.slice A4 R.length c4, .slice A5 R.length c5] W fun e w' => e = .returned (.bool true) ∧ Below W.heap.size W w') := Lib.hid (fun A4 c4 A5 c5 W h h2 => by
   have h1 := rsame16_any A4 A5 c4 c5 R R W h h2 (by have := HRLN.out; omega) (by have := HRLN.out; omega)
   rw [decide_eq_true rfl] at h1
   exact h1)
  clear hsw hHA hHB hla hR hrl
  go_wp2_with (first
   | (clear HM7; go_at_call 28; refine (HLI1.out _ HTW.out.one).mono ?_; rintro e w11 ⟨⟨A4, c4, rfl, hr⟩, hb⟩; have HR4 := Lib.hid hr; clear hr; have ht_ := Lib.hid (HTW.out.up hb); clear HTW; have HTW := ht_; clear ht_; have hB3 := Lib.hid (HBC.out.trans (hb.mono HBC.out.size)); clear HBC; have HBC := hB3; clear hB3 hb)
   | (clear HM8; go_at_call 28; refine (HLI2.out _ HTW.out.two).mono ?_; rintro e w12 ⟨⟨A5, c5, rfl, hr⟩, hb⟩; have HR5 := Lib.hid hr; have hr4 := Lib.hid (HR4.out.up hb); clear hr HR4; have HR4 := hr4; clear hr4; have ht_ := Lib.hid (HTW.out.up hb); clear HTW; have HTW := ht_; clear ht_; have hB3 := Lib.hid (HBC.out.trans (hb.mono HBC.out.size)); clear HBC; have HBC := hB3; clear hB3 hb)
   | (clear HM9; go_at_call 25; refine (HSA.out _ _ _ _ _ HR4.out HR5.out).mono ?_; rintro e w13 ⟨rfl, hb⟩; have ht_ := Lib.hid (HTW.out.up hb); clear HTW; have HTW := ht_; clear ht_; have hB3 := Lib.hid (HBC.out.trans (hb.mono HBC.out.size)); clear HBC; have HBC := hB3; clear hB3 hb)
   | (clear HM10; go_at_call 26; refine (HHI1.out _ HTW.out.one).mono ?_; rintro e w14 ⟨⟨A6, c6, rfl⟩, hb⟩; have ht_ := Lib.hid (HTW.out.up hb); clear HTW; have HTW := ht_; clear ht_; have hB3 := Lib.hid (HBC.out.trans (hb.mono HBC.out.size)); clear HBC; have HBC := hB3; clear hB3 hb)
   | (clear HM11; go_at_call 26; refine (HHI2.out _ HTW.out.two).mono ?_; rintro e w15 ⟨⟨A7, c7, rfl⟩, hb⟩; have ht_ := Lib.hid (HTW.out.up hb); clear HTW; have HTW := ht_; clear ht_; have hB3 := Lib.hid (HBC.out.trans (hb.mono HBC.out.size)); clear HBC; have HBC := hB3; clear hB3 hb))
  go_ret
  exact ⟨by first | rfl | simp, by have h9 := HBW.out _ HBC.out; first | exact h9 | (rw [← HS0.out]; exact h9)⟩
end Go.Proofs.Ytihgnnocagfdeaa
