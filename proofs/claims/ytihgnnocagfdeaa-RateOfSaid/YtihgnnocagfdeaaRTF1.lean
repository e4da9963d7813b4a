/- Contracts and the law of RateOf, part 1: what was proved of each, callees first. -/
import Derived.Laws.StructEq
import Derived.Deep.LoopGhost
import Derived.Deep.CutRange
import Derived.Test.YtihgnnocagfdeaaRT3
namespace Go.Proofs.Ytihgnnocagfdeaa
open Go.RowKit
structure A4 (w : World) (b o : Nat) (a : Acc) : Prop where
 c0 : w.cell? ⟨b, o, none⟩ = some (.int .i64 a.code)
 c1 : w.cell? ⟨b, o + 1, none⟩ = some (.int .i64 a.kind)
 c2 : w.cell? ⟨b, o + 2, none⟩ = some (.int .i64 a.basis)
 c3 : w.cell? ⟨b, o + 3, none⟩ = some (.int .i64 a.par)
section
variable {w w' : World} {b o g B : Nat} {a : Acc} {x : Bal} {A : Option Addr} {L : List Acc} {M : List Bal}
end
open Go.RowKit Go.Sort
def rtloF (g : ByteArray) (A : Option Addr) (n c _s0 B2 : Nat) (k : Rt) (F : Bool) : List (Nat × AK.Fact (KpT 1)) := [(15, AK.Fact.is (.string g)), (16, nilF 1 B2), (17, AK.Fact.is (.slice A n c)), (18, AK.Fact.triv), (19, AK.Fact.is (rtVl k)), (20, boxF [k]), (21, AK.Fact.triv), (22, AK.Fact.is (.bool F)), (23, AK.Fact.is (.bool (!F)))]
set_option maxRecDepth 100000 in
set_option maxHeartbeats 6400000 in
theorem law_rof16 (g : ByteArray) (A : Option Addr) (n c : Nat) (L : List Rt) (k : Rt) (w : World) (hgm : g.size ≤ maxLen) (hnl : L.length = n) (hnm : n ≤ 3518437208780) (hz : RowAt lyT w A L) (hok : ∀ s ∈ L, okT s) (hkk : okT k) :
  Calls Try.prog 5 #[.string g, .slice A n c, rtVl k] w fun e w' => e = .returned (.bool true) ∧ Below w.heap.size w w' := by
 obtain ⟨i0, hi, hz1, hz2, hz3⟩ := info_parts infoT
 have HAW := Lib.hid awake16_any
 obtain ⟨s0, hs0⟩ : ∃ s0, w.heap.size = s0 := ⟨_, rfl⟩
 obtain ⟨w1, hw1⟩ : ∃ w1, w.alloc (.cells #[.string k.1.1, .int .i64 k.1.2.1, .int .i64 k.1.2.2, .int .i64 k.2] 24) = w1 := ⟨_, rfl⟩
 have HXB1 : Hid (Wh 24 w1 s0 (rtC k)) := Lib.hid (by rw [← hw1, ← hs0]; exact Wh.new w _ _)
 have HB1 : Hid (Below w.heap.size w w1) := Lib.hid (by rw [← hw1]; exact below_alloc_new _)
 have HS0 := Lib.hid hs0
 have HNL := Lib.hid hnl
 have HZ1 := Lib.hid (hz.up HB1.out)
 have HOL := Lib.hid hok
 have HOK := Lib.hid hkk
 have HGM := Lib.hid hgm
 have HNM := Lib.hid hnm
 have HBC : Hid (Below w.heap.size w w1) := HB1
 clear hnl hz hok hkk hgm hnm
 have HM1 : Hid True := Lib.hid trivial
 have HM2 : Hid True := Lib.hid trivial
 go_enter Try.func5, Try.ntmps5
 go_upto_region 3 with (go_at_call 11; refine (HAW.out _).mono ?_; rintro e w2 ⟨rfl, hb⟩; have HB2 : Hid (Below w1.heap.size w1 w2) := Lib.hid hb; clear hb)
 have HXB : Hid (Wh 24 w2 s0 (rtC k)) := Lib.hid (HXB1.out.up HB2.out)
 have HRL : Hid (RowAt lyT w2 A L) := Lib.hid (HZ1.out.up HB2.out)
 obtain ⟨B2, hB2⟩ : ∃ B2, w2.heap.size = B2 := ⟨_, rfl⟩
 have HB2E := Lib.hid hB2
 obtain ⟨Lq, hLq⟩ : ∃ Lq, L ++ [k] = Lq := ⟨_, rfl⟩
 have HLQ := Lib.hid hLq
 obtain ⟨F, hF⟩ : ∃ F, fewT g Lq = F := ⟨_, rfl⟩
 have HFE := Lib.hid hF
 have HFW : Hid (∀ A9 c9 W, RowAt lyT W A9 Lq → Calls Try.prog 12 #[.string g, .slice A9 Lq.length c9] W fun e w' => e = .returned (.bool F) ∧ W = w') := Lib.hid (fun A9 c9 W h => by rw [← hF]; exact few16_any g A9 c9 Lq W h (by rw [← hLq, List.length_append, HNL.out]; have := HNM.out; simp; omega))
 clear hB2 hLq hF
 refine AK.region_facts (Rp := Below0) (Kp := KpT 1) (rtloF g A n c s0 B2 k F) (rhJ w2 L Lq) [[], [], [], [16, 17], [], [19], [18, 20], [15, 21], [22]] [3, 6] [[], [18], [21]] [2, 2, 2, 2, 2, 2, 2, 2, 2] [0, 0, 0, 0, 0, 0, 0, 2, 0] [] (fun u => by simp only [rtloF, AK.temps, List.map_cons, List.map_nil, fillL, List.setIfInBounds_toArray, List.set_cons_zero, List.set_cons_succ]; rfl) (by kernel_rfl) (by kernel_rfl) (fun _ _ h => h.1) (fun _ _ h => KpT.of h) (rhJ.st _ _ _) (dc_drew (Below.refl _ _)) ?_ ?_
 ·refine AK.sc (lim := 2) (lo := 0) rfl rfl rfl rfl ?_ ?_
  ·intro k_ u w_ hk_ hl_ hJ hF K hK
   clear hF
   go_simp
   exact hK.out _ _ (Below.refl _ _) (rfl) trivial
  refine AK.sc (lim := 2) (lo := 0) rfl rfl rfl rfl ?_ ?_
  ·intro k_ u w_ hk_ hl_ hJ hF K hK
   clear hF
   go_simp
   have hb9 := rhJ.low hJ
   exact hK.out _ _ (below_alloc_new _) (nilT_new (by rw [← HB2E.out]; exact hb9.size)) trivial
  refine AK.sc (lim := 2) (lo := 0) rfl rfl rfl rfl ?_ ?_
  ·intro k_ u w_ hk_ hl_ hJ hF K hK
   clear hF
   go_simp
   exact hK.out _ _ (Below.refl _ _) (rfl) trivial
  refine AK.ss rfl rfl ?_ ?_
  ·intro u w_ hJ hA_ hF K hK
   have h16 : NilT B2 (u 16) w_ := AK.facts_get hF 16 (by simp)
   have h17 : u 17 = .slice A n c := AK.facts_get hF 17 (by simp)
   clear hF
   simp only [h17] at hK ⊢
   clear h17
   have hb9 := rhJ.low hJ
   refine wp_app_copy (.tmp 16) (.tmp 17) 22 rfl i0 _ Try.underlying22 hi hz1 hz2 hz3 rfl rfl h16 A n c L HNL.out rfl (HRL.out.up hb9) (by have := HNM.out; omega) (by rw [← HB2E.out]; exact hb9.size) ?_
   intro v' w' ho' hb'
   rw [← HB2E.out] at ho'
   exact hK.out _ _ ⟨Below.trans hb9 (hb'.mono hb9.size), fun v hv => by cases hv; exact ho'⟩ (KpT.of hb') trivial
  refine AK.sc (lim := 2) (lo := 0) rfl rfl rfl rfl ?_ ?_
  ·intro k_ u w_ hk_ hl_ hJ hF K hK
   clear hF
   have hb9 := rhJ.low hJ
   refine wp_load_is 24 _ rfl _ rfl (rtVl k) (rate_load (HXB.out.up hb9)) ?_
   exact hK.out _ _ (Below.refl _ _) (rfl) trivial
  refine AK.sc (lim := 2) (lo := 0) rfl rfl rfl rfl ?_ ?_
  ·intro k_ u w_ hk_ hl_ hJ hF K hK
   have h19 : u 19 = rtVl k := AK.facts_get hF 19 (by simp)
   clear hF
   simp only [h19] at hK ⊢
   clear h19
   go_simp
   exact hK.out _ _ (below_alloc_new _) ⟨_, rfl, Wh.new w_ 24 (lyT.all [k])⟩ trivial
  refine AK.ss rfl rfl ?_ ?_
  ·intro u w_ hJ hA_ hF K hK
   have h20 : BoxT [k] (u 20) w_ := AK.facts_get hF 20 (by simp)
   clear hF
   obtain ⟨b20, h20, hw20⟩ := h20
   have hv9 := hJ.2 _ rfl
   simp only [h20] at hK ⊢
   clear h20
   refine wp_app_few (.tmp 18) (.tmp 20) 22 rfl i0 _ Try.underlying22 hi hz1 hz2 hz3 rfl rfl hv9 b20 1 [k] rfl (by decide) rfl hw20 (by have := HNL.out; have := HNM.out; omega) hJ.1.size ?_
   intro v' w' ho' hk' hb'
   rw [HLQ.out] at ho'
   exact hK.out _ _ ⟨hJ.1.trans hb', fun v hv => by cases hv; exact ho'⟩ hk' trivial
  refine AK.sc (lim := 2) (lo := 2) rfl rfl rfl rfl ?_ ?_
  ·intro k_ u w_ hk_ hl_ hJ hF K hK
   obtain rfl : k_ = 2 := by omega
   have h15 : u 15 = .string g := AK.facts_get hF 15 (by simp)
   clear hF
   have hv9 := hJ.2 _ rfl
   obtain ⟨A9, c9, e9, hr9, -⟩ := hv9.reads
   simp only [h15, e9] at hK ⊢
   clear h15 e9
   go_simp
   refine (HFW.out A9 c9 w_ hr9).mono ?_
   rintro e w6 ⟨rfl, rfl⟩
   exact hK.out _ _ (Below.refl _ _) (rfl) trivial
  refine AK.sc (lim := 2) (lo := 0) rfl rfl rfl rfl ?_ ?_
  ·intro k_ u w_ hk_ hl_ hJ hF K hK
   have h22 : u 22 = .bool F := AK.facts_get hF 22 (by simp)
   clear hF
   simp only [h22] at hK ⊢
   clear h22
   go_simp
   exact hK.out _ _ (Below.refl _ _) (rfl) trivial
  exact AK.StepsOk.nil
 ·intro u W9 hJ9 hF
  have h23 : u 23 = .bool (!F) := AK.facts_get hF 23 (by simp [rtloF, AK.temps])
  clear hF
  have HBC : Hid (Below w2.heap.size w2 W9) := Lib.hid hJ9.1
  clear hJ9
  have HBW : Hid (∀ W, Below w2.heap.size w2 W → Below w.heap.size w W) := Lib.hid (fun W h => (HB1.out.trans (HB2.out.mono HB1.out.size)).trans (h.mono (Nat.le_trans HB1.out.size HB2.out.size)))
  simp only [h23]
  cases F
  ·go_wp2_with fail
   go_ret
   exact ⟨rfl, by have h9 := HBW.out _ HBC.out; first | exact h9 | (rw [← HS0.out]; exact h9)⟩
  have hn2 : n ≤ 200 := by rw [← HNL.out]; exact fewT_pre (g := g) (M := [k]) (by rw [HLQ.out]; exact HFE.out)
  have HN2 := Lib.hid hn2
  clear hn2
  have HRV : Hid (∀ W, Below w2.heap.size w2 W → Calls Try.prog 18 #[.string g, .slice A n c] W fun e w' => e = .returned (.bool (rtV g L)) ∧ Below W.heap.size W w') := Lib.hid (fun W h => by rw [← HNL.out]; exact rvalid16_any g A c L W (HRL.out.up h) (by have := HNL.out; have := HN2.out; omega) HGM.out HOL.out)
  have HOF : Hid (∀ W, Below w2.heap.size w2 W → Calls Try.prog 24 #[.string g, .slice A n c] W fun e w' => OfT W g L e w' ∧ Below W.heap.size W w') := Lib.hid (fun W h => by rw [← HNL.out]; exact of16_any g A c L W (HRL.out.up h) (by have := HNL.out; have := HN2.out; omega) HOL.out)
  cases hv : rtV g L
  ·rw [hv] at HRV
   have HOF2 : Hid (∀ W, Below w2.heap.size w2 W → Calls Try.prog 24 #[.string g, .slice A n c] W fun e w' => e = .returned (.tuple #[.pointer none, .int .i64 1]) ∧ Below W.heap.size W w') := Lib.hid (fun W h => (HOF.out W h).mono fun e w' h1 => ⟨by have h2 := h1.1; unfold OfT at h2; rw [hv] at h2; exact h2, h1.2⟩)
   clear hv
   go_wp2_with (first
    | (go_at_call 24; refine (HOF2.out _ HBC.out).mono ?_; rintro e w3 ⟨rfl, hb⟩; have hB3 := Lib.hid (HBC.out.trans (hb.mono HBC.out.size)); clear HBC; have HBC := hB3; clear hB3 hb)
    | (go_at_call 18; refine (HRV.out _ HBC.out).mono ?_; rintro e w4 ⟨rfl, hb⟩; have hB3 := Lib.hid (HBC.out.trans (hb.mono HBC.out.size)); clear HBC; have HBC := hB3; clear hB3 hb))
   go_ret
   exact ⟨by first | rfl | simp, by have h9 := HBW.out _ HBC.out; first | exact h9 | (rw [← HS0.out]; exact h9)⟩
  ·rw [hv] at HRV
   have HND : Hid (L.map (·.1)).Nodup := Lib.hid (rtV_nodup hv)
   have HOF2 : Hid (∀ W, Below w2.heap.size w2 W → Calls Try.prog 24 #[.string g, .slice A n c] W fun e w' => (∃ (b : Nat) (j : TD), e = .returned (.tuple #[.pointer (some ⟨b, 0, none⟩), .int .i64 0]) ∧ TP w' W.heap.size (.pointer (some ⟨b, 0, none⟩)) j L ∧ j.g = g) ∧ Below W.heap.size W w') := Lib.hid (fun W h => (HOF.out W h).mono fun e w' h1 => ⟨by have h2 := h1.1; unfold OfT at h2; rw [if_pos hv] at h2; exact h2, h1.2⟩)
   obtain ⟨V, hV⟩ : ∃ V, (rtF L k.1).getD 0 = V := ⟨_, rfl⟩
   obtain ⟨B, hB⟩ : ∃ B, (rtF L k.1).isSome = B := ⟨_, rfl⟩
   have HRF : Hid (∀ W, Below w2.heap.size w2 W → Calls Try.prog 14 #[.slice A n c, .string k.1.1, .int .i64 k.1.2.1, .int .i64 k.1.2.2] W fun e w' => e = .returned (.tuple #[.int .i64 V, .bool B]) ∧ Below W.heap.size W w') := Lib.hid (fun W h => by rw [← HNL.out, ← hV, ← hB]; exact rfind16_any A c L k.1 W (HRL.out.up h) (by have := HNL.out; have := HN2.out; omega))
   have HGT : Hid (∀ P j B9 W, TP W B9 P j L → Calls Try.prog 27 #[P, .string k.1.1, .int .i64 k.1.2.1, .int .i64 k.1.2.2] W fun e w' => e = .returned (.tuple #[.int .i64 V, .bool B]) ∧ W = w') := Lib.hid (fun P j B9 W h => by
    have h1 := getP_any k.1 h HOK.out.1
    rw [tbF_of HND.out, hV, hB] at h1
    exact h1)
   have HHI : Hid (∀ P j B9 W, TP W B9 P j L → Calls Try.prog 26 #[P] W fun e w' => (∃ A4 c4, e = .returned (.slice A4 L.length c4) ∧ RowAt lyT w' A4 L) ∧ Below W.heap.size W w') := Lib.hid (fun P j B9 W h => (hisP_any h (by have := HNL.out; have := HN2.out; omega)).mono fun e w' h1 => ⟨by
    obtain ⟨A4, c4, h2, h3⟩ := h1.1
    obtain ⟨A5, c5, e5, h5, _⟩ := h3.reads
    cases e5
    exact ⟨A4, c4, h2, h5⟩, h1.2⟩)
   have HLI : Hid (∀ P j B9 W, TP W B9 P j L → Calls Try.prog 28 #[P] W fun e w' => (∃ A4 c4, e = .returned (.slice A4 n c4)) ∧ Below W.heap.size W w') := Lib.hid (fun P j B9 W h => (listP_any h (by have := HNL.out; have := HN2.out; omega)).mono fun e w' h1 => ⟨by
    obtain ⟨A4, c4, h2, _⟩ := h1.1
    rw [rtL_full HND.out, HNL.out] at h2
    exact ⟨A4, c4, h2⟩, h1.2⟩)
   have HSA : Hid (∀ A4 c4 W, RowAt lyT W A4 L → Below w2.heap.size w2 W → Calls Try.prog 25 #[.slice A4 L.length c4, .slice A n c] W fun e w' => e = .returned (.bool true) ∧ Below W.heap.size W w') := Lib.hid (fun A4 c4 W h h2 => by
    have h1 := rsame16_any A4 A c4 c L L W h (HRL.out.up h2) (by have := HNL.out; have := HN2.out; omega) (by have := HNL.out; have := HN2.out; omega)
    rw [decide_eq_true rfl] at h1
    rw [← HNL.out]; exact h1)
   clear hv hV hB
   go_wp2_with (first
    | (go_at_call 24; refine (HOF2.out _ HBC.out).mono ?_; rintro e w3 ⟨⟨b, j, rfl, hj, -⟩, hb⟩; have HJ := Lib.hid hj; clear hj; have hB3 := Lib.hid (HBC.out.trans (hb.mono HBC.out.size)); clear HBC; have HBC := hB3; clear hB3 hb)
    | (go_at_call 18; refine (HRV.out _ HBC.out).mono ?_; rintro e w4 ⟨rfl, hb⟩; have hj := Lib.hid (HJ.out.up hb); clear HJ; have HJ := hj; clear hj; have hB3 := Lib.hid (HBC.out.trans (hb.mono HBC.out.size)); clear HBC; have HBC := hB3; clear hB3 hb)
    | (go_at_call 26; refine (HHI.out _ _ _ _ HJ.out).mono ?_; rintro e w5 ⟨⟨A4, c4, rfl, hr⟩, hb⟩; have HR4 := Lib.hid hr; clear hr; have hj := Lib.hid (HJ.out.up hb); clear HJ; have HJ := hj; clear hj; have hB3 := Lib.hid (HBC.out.trans (hb.mono HBC.out.size)); clear HBC; have HBC := hB3; clear hB3 hb)
    | (go_at_call 25; refine (HSA.out _ _ _ HR4.out HBC.out).mono ?_; rintro e w6 ⟨rfl, hb⟩; have hj := Lib.hid (HJ.out.up hb); clear HJ; have HJ := hj; clear hj; have hB3 := Lib.hid (HBC.out.trans (hb.mono HBC.out.size)); clear HBC; have HBC := hB3; clear hB3 hb; have cs_ := HXB.out.up HBC.out; have c0 := cs_.at 0 _ rfl; have c1 := cs_.at 1 _ rfl; have c2 := cs_.at 2 _ rfl; clear cs_)
    | (go_at_call 27; refine (HGT.out _ _ _ _ HJ.out).mono ?_; rintro e w7 ⟨rfl, rfl⟩)
    | (go_at_call 14; refine (HRF.out _ HBC.out).mono ?_; rintro e w8 ⟨rfl, hb⟩; have hj := Lib.hid (HJ.out.up hb); clear HJ; have HJ := hj; clear hj; have hB3 := Lib.hid (HBC.out.trans (hb.mono HBC.out.size)); clear HBC; have HBC := hB3; clear hB3 hb)
    | (go_at_call 28; refine (HLI.out _ _ _ _ HJ.out).mono ?_; rintro e w10 ⟨⟨A6, c6, rfl⟩, hb⟩; have hB3 := Lib.hid (HBC.out.trans (hb.mono HBC.out.size)); clear HBC; have HBC := hB3; clear hB3 hb))
   go_ret
   exact ⟨by first | rfl | simp, by have h9 := HBW.out _ HBC.out; first | exact h9 | (rw [← HS0.out]; exact h9)⟩
end Go.Proofs.Ytihgnnocagfdeaa
