/- Contracts and the law of RateRebuilds, part 1: what was proved of each, callees first. -/
import Derived.Laws.StructEq
import Derived.Deep.LoopGhost
import Derived.Deep.CutRange
import Derived.Test.YtihgnnocagfdeaaRT3
namespace Go.Proofs.Ytihgnnocagfdeaa
open Go.RowKit
structure A4 (w : World) (b o : Nat) (a : Acc) : Prop where
 c0 : w.cell? ⟨b, o, none⟩ = some (.int .i64 a.code)
 c1 : w.cell? ⟨b, o + 1, none⟩ = some (.int .i64 a.kind)
 c2 : w.cell? ⟨b, o + 2, none⟩ = some (.int .i64 a.basis)
 c3 : w.cell? ⟨b, o + 3, none⟩ = some (.int .i64 a.par)
section
variable {w w' : World} {b o g B : Nat} {a : Acc} {x : Bal} {A : Option Addr} {L : List Acc} {M : List Bal}
end
open Go.RowKit Go.Sort
def RowR (_w : World) (L : List Rt) (e : Ending) (w' : World) : Prop := ∃ A c, e = .returned (.slice A L.length c) ∧ RowAt lyT w' A L
theorem RowR.of {w w' : World} {L : List Rt} {e : Ending} (h : RowQ w L e w') : RowR w L e w' := by
 obtain ⟨A4, c4, h2, h3⟩ := h
 obtain ⟨A5, c5, e5, h5, _⟩ := h3.reads
 cases e5
 exact ⟨A4, c4, h2, h5⟩
theorem row_lt {w : World} {A : Option Addr} {L : List Rt} (h : RowAt lyT w A L) (h0 : 0 < L.length) {g o : Nat} (hA : A = some ⟨g, o, none⟩) : g < w.heap.size := by
 obtain ⟨b, off, e, hlt, _⟩ := h h0
 rw [hA] at e; cases e
 exact hlt
structure Two16 (W : World) (B : Nat) (P : Value) (j : TD) (H : List Rt) (Q : Value) (k : TD) (G : List Rt) : Prop where
 one : TP W B P j H
 two : TP W B Q k G
 ap : ∀ x, j.own H.length x → ¬ k.own G.length x
section
variable {W W' : World} {B : Nat} {P Q : Value} {j k j' k' : TD} {H G H' G' : List Rt}
theorem Two16.symm (h : Two16 W B P j H Q k G) : Two16 W B Q k G P j H := ⟨h.two, h.one, fun x h1 h2 => h.ap x h2 h1⟩
theorem Two16.up (h : Two16 W B P j H Q k G) (hb : Below W.heap.size W W') : Two16 W' B P j H Q k G := ⟨h.one.up hb, h.two.up hb, h.ap⟩
theorem Two16.left (h : Two16 W B P j H Q k G) (hm : GoP W W' B P j H j' H') : Two16 W' B P j' H' Q k G :=
 ⟨hm.tp, h.two.only hm.mv.only (fun x h1 h2 => h.ap x h2 h1), fun x h1 h2 => by
  rcases hm.mv.own h1 with h3 | h3
  ·exact h.ap x h3 h2
  ·have := (h.two.2.own_lt h2).2; omega⟩
theorem Two16.right (h : Two16 W B P j H Q k G) (hm : GoP W W' B Q k G k' G') : Two16 W' B P j H Q k' G' := (h.symm.left hm).symm
theorem Two16.mk2 (h : TP W B P j H) (h2 : TP W' W.heap.size Q k G) (hb : Below W.heap.size W W') (hB : B ≤ W.heap.size) : Two16 W' B P j H Q k G :=
 ⟨h.up hb, ⟨h2.1, h2.2.low hB⟩, fun x h3 h4 => by have := (h.2.own_lt h3).2; have := (h2.2.own_lt h4).1; omega⟩
end
theorem setO_any {P : Value} {j : TD} {H : List Rt} (A : Option Addr) (cp n : Nat) (L : List Rt) {B : Nat} {w2 W : World} (hnl : L.length = n) (hj : TP W B P j H) (hB : w2.heap.size ≤ B) (hBW : B ≤ W.heap.size) (hz : RowAt lyT w2 A L) (hbc : Below w2.heap.size w2 W) (hok : ∀ r ∈ L, okT r) (hn : H.length + n ≤ 900) :
  Calls Try.prog 29 #[P, .slice A n cp] W fun e w' => e = .returned (.tuple #[]) ∧ ∃ k, GoP W w' B P j H k (H ++ rtH j.g L) := by
 subst hnl
 exact setL_any A cp L hj hBW (hz.up hbc) (fun h0 g o hA hx => by
  have h1 := row_lt hz h0 hA
  have h2 := (hj.2.own_lt hx).1
  omega) hok hn
theorem setN_any {P : Value} {j : TD} {H : List Rt} (a b : Rt) {B : Nat} {w1 W : World} (hj : TP w1 B P j H) (hB : B ≤ w1.heap.size) (hbw : Below w1.heap.size w1 W) (hw : Wh 24 W w1.heap.size (lyT.all [a, b])) (ha : okT a) (hb : okT b) (hn : H.length ≤ 890) :
  Calls Try.prog 29 #[P, .slice (some ⟨w1.heap.size, 0, none⟩) 2 2] W fun e w' => e = .returned (.tuple #[]) ∧ ∃ k, GoP W w' B P j H k (H ++ rtH j.g [a, b]) :=
 setL_any (some ⟨w1.heap.size, 0, none⟩) 2 [a, b] (hj.up hbw) (Nat.le_trans hB hbw.size) (fun _ => ⟨w1.heap.size, 0, rfl, hw.lt, hw.range⟩) (fun _ g o hA hx => by
  cases hA
  have h2 := (hj.2.own_lt hx).2
  omega) (fun r hr => by
  rcases List.mem_cons.1 hr with rfl | hr
  ·exact ha
  ·rcases List.mem_cons.1 hr with rfl | hr
   ·exact hb
   ·cases hr) (by simp; omega)
theorem rt_swap (g : ByteArray) (H : List Rt) (a b : Rt) (h : a.1 ≠ b.1) : rtL (H ++ rtH g [a, b]) = rtL (H ++ rtH g [b, a]) ∧ (H ++ rtH g [a, b]).length = (H ++ rtH g [b, a]).length := by
 unfold rtH
 cases ha : rtP g a <;> cases hb : rtP g b <;> simp [ha, hb]
 have h1 := rtL_two (H := H) h
 simpa using h1
open Go.RowKit Go.Sort
theorem setR_any {P : Value} {j : TD} {H : List Rt} (A : Option Addr) (cp : Nat) (L : List Rt) {B : Nat} {w1 W : World} (hj : TP w1 B P j H) (hB : B ≤ w1.heap.size) (hbw : Below w1.heap.size w1 W) (hr : OwnR lyT 24 W w1.heap.size (.slice A L.length cp) L) (hok : ∀ r ∈ L, okT r) (hn : H.length + L.length ≤ 900) :
  Calls Try.prog 29 #[P, .slice A L.length cp] W fun e w' => e = .returned (.tuple #[]) ∧ ∃ k, GoP W w' B P j H k (H ++ rtH j.g L) := by
 obtain ⟨A5, c5, e5, h5, h6⟩ := hr.reads
 cases e5
 exact setL_any A cp L (hj.up hbw) (Nat.le_trans hB hbw.size) h5 (fun _ g o hA hx => by
  have h7 := (hr.lt (h6 g o hA).1).1
  have h2 := (hj.2.own_lt hx).2
  omega) hok hn
set_option maxRecDepth 100000 in
set_option maxHeartbeats 6400000 in
theorem law_rebuilds16 (g : ByteArray) (A : Option Addr) (n c : Nat) (L : List Rt) (w : World) (hgm : g.size ≤ maxLen) (hnl : L.length = n) (hnm : n ≤ 3518437208780) (hz : RowAt lyT w A L) (hok : ∀ s ∈ L, okT s) :
  Calls Try.prog 9 #[.string g, .slice A n c] w fun e w' => e = .returned (.bool true) ∧ Below w.heap.size w w' := by
 have HAW := Lib.hid awake16_any
 obtain ⟨s0, hs0⟩ : ∃ s0, w.heap.size = s0 := ⟨_, rfl⟩
 have HS0 := Lib.hid hs0
 have HNL := Lib.hid hnl
 have HZ1 := Lib.hid hz
 have HOL := Lib.hid hok
 have HGM := Lib.hid hgm
 have HNM := Lib.hid hnm
 obtain ⟨F, hF⟩ : ∃ F, fewT g L = F := ⟨_, rfl⟩
 have HFE := Lib.hid hF
 have HFW : Hid (∀ W, Below w.heap.size w W → Calls Try.prog 12 #[.string g, .slice A n c] W fun e w' => e = .returned (.bool F) ∧ W = w') := Lib.hid (fun W h => by rw [← hF, ← HNL.out]; exact few16_any g A c L W (HZ1.out.up h) (by rw [HNL.out]; have := HNM.out; omega))
 clear hnl hz hok hgm hnm hF hs0
 have HM1 : Hid True := Lib.hid trivial
 have HM2 : Hid True := Lib.hid trivial
 have HM3 : Hid True := Lib.hid trivial
 have HM4 : Hid True := Lib.hid trivial
 have HM5 : Hid True := Lib.hid trivial
 have HM6 : Hid True := Lib.hid trivial
 have HM7 : Hid True := Lib.hid trivial
 have HM8 : Hid True := Lib.hid trivial
 have HM9 : Hid True := Lib.hid trivial
 have HM10 : Hid True := Lib.hid trivial
 have HM11 : Hid True := Lib.hid trivial
 have HM12 : Hid True := Lib.hid trivial
 have HM13 : Hid True := Lib.hid trivial
 have HM14 : Hid True := Lib.hid trivial
 have HM15 : Hid True := Lib.hid trivial
 have HM16 : Hid True := Lib.hid trivial
 have HM17 : Hid True := Lib.hid trivial
 have HM18 : Hid True := Lib.hid trivial
 have HM19 : Hid True := Lib.hid trivial
 cases F
 ·go_enter Try.func9, Try.ntmps9
  go_wp2_with (first
   | (go_at_call 11; refine (HAW.out _).mono ?_; rintro e w2 ⟨rfl, hb⟩; have HB2 : Hid (Below w.heap.size w w2) := Lib.hid hb; clear hb)
   | (go_at_call 12; refine (HFW.out _ HB2.out).mono ?_; rintro e w3 ⟨rfl, rfl⟩))
  go_ret
  exact ⟨rfl, by have h9 := HB2.out; first | exact h9 | (rw [← HS0.out]; exact h9)⟩
 have HN2 : Hid (n ≤ 200) := Lib.hid (by rw [← HNL.out]; exact fewT_len HFE.out)
 by_cases hcu : curB g = true
 rotate_left
 ·have HNW : Hid (∀ W, Calls Try.prog 19 #[.string g] W fun e w' => e = .returned (.tuple #[.pointer none, .int .i64 1]) ∧ Below W.heap.size W w') := Lib.hid (fun W => (nwT_any g W).mono fun e w' h => ⟨by have h1 := h.1; unfold NwT at h1; rw [if_neg hcu] at h1; exact h1, h.2⟩)
  clear hcu
  have HBC : Hid (Below w.heap.size w w) := Lib.hid (Below.refl _ _)
  go_enter Try.func9, Try.ntmps9
  go_wp2_with (first
   | (go_at_call 11; refine (HAW.out _).mono ?_; rintro e w2 ⟨rfl, hb⟩; have hB3 := Lib.hid (HBC.out.trans (hb.mono HBC.out.size)); clear HBC; have HBC := hB3; clear hB3 hb)
   | (go_at_call 12; refine (HFW.out _ HBC.out).mono ?_; rintro e w3 ⟨rfl, rfl⟩)
   | (go_at_call 19; refine (HNW.out _).mono ?_; rintro e w4 ⟨rfl, hb⟩; have hB3 := Lib.hid (HBC.out.trans (hb.mono HBC.out.size)); clear HBC; have HBC := hB3; clear hB3 hb))
  go_ret
  exact ⟨by first | rfl | simp, by have h9 := HBC.out; first | exact h9 | (rw [← HS0.out]; exact h9)⟩
 have HCU := Lib.hid hcu
 have HNW : Hid (∀ W, Calls Try.prog 19 #[.string g] W fun e w' => (∃ (b : Nat) (j : TD), e = .returned (.tuple #[.pointer (some ⟨b, 0, none⟩), .int .i64 0]) ∧ TP w' W.heap.size (.pointer (some ⟨b, 0, none⟩)) j [] ∧ j.g = g) ∧ Below W.heap.size W w') := Lib.hid (fun W => (nwT_any g W).mono fun e w' h => ⟨by have h1 := h.1; unfold NwT at h1; rw [if_pos hcu] at h1; exact h1, h.2⟩)
 clear hcu
 go_enter Try.func9, Try.ntmps9
 go_upto_region 5 with (first
  | (go_at_call 11; refine (HAW.out _).mono ?_; rintro e w2 ⟨rfl, hb⟩; have HB2 : Hid (Below w.heap.size w w2) := Lib.hid hb; clear hb)
  | (go_at_call 12; refine (HFW.out _ HB2.out).mono ?_; rintro e w3 ⟨rfl, rfl⟩))
 obtain ⟨wl, hwl⟩ : ∃ wl, w2 = wl := ⟨_, rfl⟩
 subst hwl
 have HRL : Hid (RowAt lyT w2 A L) := Lib.hid (HZ1.out.up HB2.out)
 have HBC : Hid (Below w2.heap.size w2 w2) := Lib.hid (Below.refl _ _)
 have HBW : Hid (∀ W, Below w2.heap.size w2 W → Below w.heap.size w W) := Lib.hid (fun W h => HB2.out.trans (h.mono HB2.out.size))
 go_upto_region 10 with (first
  | (clear HM1; go_at_call 19; refine (HNW.out _).mono ?_; rintro e w4 ⟨⟨b3, j, rfl, hj, hg⟩, hb⟩; have HJ3 := Lib.hid (show TP w4 w2.heap.size _ j [] from ⟨hj.1, hj.2.low HBC.out.size⟩); have HGJ := Lib.hid hg; clear hj hg; have hB3 := Lib.hid (HBC.out.trans (hb.mono HBC.out.size)); clear HBC; have HBC := hB3; clear hB3 hb)
  | (clear HM2; go_at_call 19; refine (HNW.out _).mono ?_; rintro e w5 ⟨⟨b4, k, rfl, hj, hg⟩, hb⟩; have HTW := Lib.hid (Two16.mk2 HJ3.out hj hb HBC.out.size); have HGK := Lib.hid hg; clear hj hg; have hB3 := Lib.hid (HBC.out.trans (hb.mono HBC.out.size)); clear HBC; have HBC := hB3; clear hB3 hb)
  | (clear HM3; go_at_call 29; refine (setO_any A c n L HNL.out HTW.out.one (Nat.le_refl _) HBC.out.size HRL.out HBC.out HOL.out (by have := HN2.out; simp; omega)).mono ?_; rintro e w6 ⟨rfl, j5, hm⟩; have ht_ := Lib.hid (HTW.out.left hm); have HG5 := Lib.hid hm.g; have hB3 := Lib.hid (HBC.out.trans (hm.below HTW.out.one HBC.out.size)); clear HBC; have HBC := hB3; clear hB3; clear hm HTW; have HTW := ht_; clear ht_))
 obtain ⟨H1, hH1⟩ : ∃ H1, [] ++ rtH j.g L = H1 := ⟨_, rfl⟩
 rw [hH1] at HTW
 have hH0 : rtH g L = H1 := by rw [← hH1, HGJ.out]; rfl
 have HHL : Hid (H1.length ≤ 200) := Lib.hid (by rw [← hH1]; have h1 := rtH_len j.g L; have := HNL.out; have := HN2.out; simp; omega)
 have HOK1 : Hid (∀ r ∈ H1, okT r) := Lib.hid (fun r hr => HOL.out r (by rw [← hH0] at hr; exact (List.mem_filter.1 hr).1))
 have HAG : Hid ([] ++ rtH k.g H1 = H1) := Lib.hid (by rw [HGK.out, ← hH0, rtH_again]; rfl)
 obtain ⟨R, hR⟩ : ∃ R, rtL H1 = R := ⟨_, rfl⟩
 have HRV : Hid (rtV g R = true) := Lib.hid (by rw [← hR]; exact rtL_valid HCU.out (by have := HHL.out; omega) (fun r hr => by rw [← hH0] at hr; exact rtH_ok g L r hr))
 have HRR : Hid (rtL R = R) := Lib.hid (by rw [← hR]; exact rtL_idem H1)
 have HRN : Hid (R.length ≤ 200) := Lib.hid (by rw [← hR]; have h1 := rtL_len H1; have := HHL.out; omega)
 have HRO : Hid (∀ r ∈ R, okT r) := Lib.hid (fun r hr => by
  rw [← hR] at hr
  exact HOK1.out r (tbF_mem ((rtL_mem H1 r).1 hr)))
 have HLI : Hid (∀ P j W, TP W w2.heap.size P j H1 → Calls Try.prog 28 #[P] W fun e w' => (∃ A4 c4, e = .returned (.slice A4 R.length c4) ∧ RowAt lyT w' A4 R) ∧ Below W.heap.size W w') := Lib.hid (fun P j W h => by
  have h2 := listP_any h (by have := HHL.out; omega)
  rw [hR] at h2
  exact h2.mono fun e w' h1 => ⟨RowR.of h1.1, h1.2⟩)
 have HLV : Hid (∀ P j W, TP W w2.heap.size P j R → Calls Try.prog 28 #[P] W fun e w' => (∃ A4 c4, e = .returned (.slice A4 R.length c4) ∧ RowAt lyT w' A4 R) ∧ Below W.heap.size W w') := Lib.hid (fun P j W h => by
  have h2 := listP_any h (by have := HRN.out; omega)
  rw [HRR.out] at h2
  exact h2.mono fun e w' h1 => ⟨RowR.of h1.1, h1.2⟩)
 have HHI : Hid (∀ P j W, TP W w2.heap.size P j H1 → Calls Try.prog 26 #[P] W fun e w' => (∃ A4 c4, e = .returned (.slice A4 H1.length c4) ∧ RowAt lyT w' A4 H1) ∧ Below W.heap.size W w') := Lib.hid (fun P j W h => (hisP_any h (by have := HHL.out; omega)).mono fun e w' h1 => ⟨RowR.of h1.1, h1.2⟩)
 have HHO : Hid (∀ P j W, TP W w2.heap.size P j H1 → Calls Try.prog 26 #[P] W fun e w' => (∃ A4 c4, e = .returned (.slice A4 H1.length c4) ∧ OwnR lyT 24 w' W.heap.size (.slice A4 H1.length c4) H1) ∧ Below W.heap.size W w') := Lib.hid (fun P j W h => (hisP_any h (by have := HHL.out; omega)).mono fun e w' h1 => ⟨h1.1, h1.2⟩)
 have HSR : Hid (∀ A4 c4 A5 c5 W, RowAt lyT W A4 R → RowAt lyT W A5 R → Calls Try.prog 25 #[.slice A4 R.length c4, .slice A5 R.length c5] W fun e w' => e = .returned (.bool true) ∧ Below W.heap.size W w') := Lib.hid (fun A4 c4 A5 c5 W h h2 => by
  have h1 := rsame16_any A4 A5 c4 c5 R R W h h2 (by have := HRN.out; omega) (by have := HRN.out; omega)
  rw [decide_eq_true rfl] at h1
  exact h1)
 have HSH : Hid (∀ A4 c4 A5 c5 W, RowAt lyT W A4 H1 → RowAt lyT W A5 H1 → Calls Try.prog 25 #[.slice A4 H1.length c4, .slice A5 H1.length c5] W fun e w' => e = .returned (.bool true) ∧ Below W.heap.size W w') := Lib.hid (fun A4 c4 A5 c5 W h h2 => by
  have h1 := rsame16_any A4 A5 c4 c5 H1 H1 W h h2 (by have := HHL.out; omega) (by have := HHL.out; omega)
  rw [decide_eq_true rfl] at h1
  exact h1)
 have HOF : Hid (∀ A4 c4 W, RowAt lyT W A4 R → Calls Try.prog 24 #[.string g, .slice A4 R.length c4] W fun e w' => (∃ (b : Nat) (j : TD), e = .returned (.tuple #[.pointer (some ⟨b, 0, none⟩), .int .i64 0]) ∧ TP w' W.heap.size (.pointer (some ⟨b, 0, none⟩)) j R) ∧ Below W.heap.size W w') := Lib.hid (fun A4 c4 W h => (of16_any g A4 c4 R W h (by have := HRN.out; omega) HRO.out).mono fun e w' h1 => ⟨by
  have h2 := h1.1
  unfold OfT at h2
  rw [if_pos HRV.out] at h2
  obtain ⟨b, j, h3, h4, _⟩ := h2
  exact ⟨b, j, h3, h4⟩, h1.2⟩)
 clear hH1 hH0 hR
 go_upto_region 11 with (first
  | (clear HM4; go_at_call 26; refine (HHO.out _ _ _ HTW.out.one).mono ?_; rintro e w7 ⟨⟨A4, c4, rfl, hr⟩, hb⟩; have HRO4 := Lib.hid hr; have HB7 := Lib.hid hb; have HBC6 := Lib.hid HBC.out.size; clear hr; have hB3 := Lib.hid (HBC.out.trans (hb.mono HBC.out.size)); clear HBC; have HBC := hB3; clear hB3 hb)
  | (clear HM5; go_at_call 29; refine (setR_any A4 c4 H1 HTW.out.two (by have h9 := HB7.out.size; first | exact HBC6.out | omega) HB7.out HRO4.out HOK1.out (by have := HHL.out; simp; omega)).mono ?_; rintro e w8 ⟨rfl, k6, hm⟩; have ht_ := Lib.hid ((HTW.out.up HB7.out).right hm); have hB3 := Lib.hid (HBC.out.trans (hm.below (HTW.out.up HB7.out).two HBC.out.size)); clear HBC; have HBC := hB3; clear hB3; clear hm HTW; have HTW := ht_; clear ht_))
 rw [HAG.out] at HTW
 go_upto_region 12 with (first
  | (clear HM6; go_at_call 28; refine (HLI.out _ _ _ HTW.out.one).mono ?_; rintro e w9 ⟨⟨A6, c6, rfl, hr⟩, hb⟩; have HR6 := Lib.hid hr; clear hr; have ht_ := Lib.hid (HTW.out.up hb); clear HTW; have HTW := ht_; clear ht_; have hB3 := Lib.hid (HBC.out.trans (hb.mono HBC.out.size)); clear HBC; have HBC := hB3; clear hB3 hb)
  | (clear HM7; go_at_call 24; refine (HOF.out _ _ _ HR6.out).mono ?_; rintro e w10 ⟨⟨b10, j10, rfl, hj⟩, hb⟩; have HTV := Lib.hid (show TP w10 w2.heap.size _ j10 R from ⟨hj.1, hj.2.low HBC.out.size⟩); clear hj; have ht_ := Lib.hid (HTW.out.up hb); clear HTW; have HTW := ht_; clear ht_; have hB3 := Lib.hid (HBC.out.trans (hb.mono HBC.out.size)); clear HBC; have HBC := hB3; clear hB3 hb))
 go_wp2_with (first
  | (clear HM8; go_at_call 28; refine (HLV.out _ _ _ HTV.out).mono ?_; rintro e w11 ⟨⟨A11, c11, rfl, hr⟩, hb⟩; have HR4 := Lib.hid hr; clear hr; have ht_ := Lib.hid (HTW.out.up hb); clear HTW; have HTW := ht_; clear ht_; have hv_ := Lib.hid (HTV.out.up hb); clear HTV; have HTV := hv_; clear hv_; have hB3 := Lib.hid (HBC.out.trans (hb.mono HBC.out.size)); clear HBC; have HBC := hB3; clear hB3 hb)
  | (clear HM9; go_at_call 28; refine (HLI.out _ _ _ HTW.out.one).mono ?_; rintro e w12 ⟨⟨A12, c12, rfl, hr⟩, hb⟩; have hr4 := Lib.hid (HR4.out.up hb); clear HR4; have HR4 := hr4; clear hr4; have HR5 := Lib.hid hr; clear hr; have ht_ := Lib.hid (HTW.out.up hb); clear HTW; have HTW := ht_; clear ht_; have hv_ := Lib.hid (HTV.out.up hb); clear HTV; have HTV := hv_; clear hv_; have hB3 := Lib.hid (HBC.out.trans (hb.mono HBC.out.size)); clear HBC; have HBC := hB3; clear hB3 hb)
  | (clear HM10; go_at_call 25; refine (HSR.out _ _ _ _ _ HR4.out HR5.out).mono ?_; rintro e w13 ⟨rfl, hb⟩; clear HR4 HR5; have ht_ := Lib.hid (HTW.out.up hb); clear HTW; have HTW := ht_; clear ht_; have hv_ := Lib.hid (HTV.out.up hb); clear HTV; have HTV := hv_; clear hv_; have hB3 := Lib.hid (HBC.out.trans (hb.mono HBC.out.size)); clear HBC; have HBC := hB3; clear hB3 hb)
  | (clear HM11; go_at_call 28; refine (HLI.out _ _ _ HTW.out.two).mono ?_; rintro e w14 ⟨⟨A14, c14, rfl, hr⟩, hb⟩; have HR4 := Lib.hid hr; clear hr; have ht_ := Lib.hid (HTW.out.up hb); clear HTW; have HTW := ht_; clear ht_; have hv_ := Lib.hid (HTV.out.up hb); clear HTV; have HTV := hv_; clear hv_; have hB3 := Lib.hid (HBC.out.trans (hb.mono HBC.out.size)); clear HBC; have HBC := hB3; clear hB3 hb)
  | (clear HM12; go_at_call 28; refine (HLI.out _ _ _ HTW.out.one).mono ?_; rintro e w15 ⟨⟨A15, c15, rfl, hr⟩, hb⟩; have hr4 := Lib.hid (HR4.out.up hb); clear HR4; have HR4 := hr4; clear hr4; have HR5 := Lib.hid hr; clear hr; have ht_ := Lib.hid (HTW.out.up hb); clear HTW; have HTW := ht_; clear ht_; have hv_ := Lib.hid (HTV.out.up hb); clear HTV; have HTV := hv_; clear hv_; have hB3 := Lib.hid (HBC.out.trans (hb.mono HBC.out.size)); clear HBC; have HBC := hB3; clear hB3 hb)
  | (clear HM13; go_at_call 25; refine (HSR.out _ _ _ _ _ HR4.out HR5.out).mono ?_; rintro e w16 ⟨rfl, hb⟩; clear HR4 HR5; have ht_ := Lib.hid (HTW.out.up hb); clear HTW; have HTW := ht_; clear ht_; have hv_ := Lib.hid (HTV.out.up hb); clear HTV; have HTV := hv_; clear hv_; have hB3 := Lib.hid (HBC.out.trans (hb.mono HBC.out.size)); clear HBC; have HBC := hB3; clear hB3 hb)
  | (clear HM14; go_at_call 26; refine (HHI.out _ _ _ HTW.out.two).mono ?_; rintro e w17 ⟨⟨A17, c17, rfl, hr⟩, hb⟩; have HR4 := Lib.hid hr; clear hr; have ht_ := Lib.hid (HTW.out.up hb); clear HTW; have HTW := ht_; clear ht_; have hv_ := Lib.hid (HTV.out.up hb); clear HTV; have HTV := hv_; clear hv_; have hB3 := Lib.hid (HBC.out.trans (hb.mono HBC.out.size)); clear HBC; have HBC := hB3; clear hB3 hb)
  | (clear HM15; go_at_call 26; refine (HHI.out _ _ _ HTW.out.one).mono ?_; rintro e w18 ⟨⟨A18, c18, rfl, hr⟩, hb⟩; have hr4 := Lib.hid (HR4.out.up hb); clear HR4; have HR4 := hr4; clear hr4; have HR5 := Lib.hid hr; clear hr; have ht_ := Lib.hid (HTW.out.up hb); clear HTW; have HTW := ht_; clear ht_; have hv_ := Lib.hid (HTV.out.up hb); clear HTV; have HTV := hv_; clear hv_; have hB3 := Lib.hid (HBC.out.trans (hb.mono HBC.out.size)); clear HBC; have HBC := hB3; clear hB3 hb)
  | (clear HM16; go_at_call 25; refine (HSH.out _ _ _ _ _ HR4.out HR5.out).mono ?_; rintro e w19 ⟨rfl, hb⟩; clear HR4 HR5; have ht_ := Lib.hid (HTW.out.up hb); clear HTW; have HTW := ht_; clear ht_; have hv_ := Lib.hid (HTV.out.up hb); clear HTV; have HTV := hv_; clear hv_; have hB3 := Lib.hid (HBC.out.trans (hb.mono HBC.out.size)); clear HBC; have HBC := hB3; clear hB3 hb))
 go_ret
 exact ⟨by first | rfl | simp, by have h9 := HBW.out _ HBC.out; first | exact h9 | (rw [← HS0.out]; exact h9)⟩
end Go.Proofs.Ytihgnnocagfdeaa
