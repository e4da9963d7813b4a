/- Contracts and the law of RateValid, part 1: what was proved of each, callees first. -/
import Derived.Test.YtihgnnocagfdeaaRT3
namespace Go.Proofs.Ytihgnnocagfdeaa
open Go.RowKit Go.Sort
def rtlvF (g : ByteArray) (A : Option Addr) (n c _s0 B2 : Nat) (k : Rt) (F : Bool) : List (Nat × AK.Fact (KpT 1)) := [(13, AK.Fact.is (.string g)), (14, nilF 1 B2), (15, AK.Fact.is (.slice A n c)), (16, AK.Fact.triv), (17, AK.Fact.is (rtVl k)), (18, boxF [k]), (19, AK.Fact.triv), (20, AK.Fact.is (.bool F)), (21, AK.Fact.is (.bool (!F)))]
set_option maxRecDepth 100000 in
set_option maxHeartbeats 6400000 in
theorem law_rvalid16 (g : ByteArray) (A : Option Addr) (n c : Nat) (L : List Rt) (k : Rt) (w : World) (hgm : g.size ≤ maxLen) (hnl : L.length = n) (hnm : n ≤ 3518437208780) (hz : RowAt lyT w A L) (hok : ∀ s ∈ L, okT s) (hkk : okT k) :
  Calls Try.prog 3 #[.string g, .slice A n c, rtVl k] w fun e w' => e = .returned (.bool true) ∧ Below w.heap.size w w' := by
 obtain ⟨i0, hi, hz1, hz2, hz3⟩ := info_parts infoT
 have HAW := Lib.hid awake16_any
 obtain ⟨s0, hs0⟩ : ∃ s0, w.heap.size = s0 := ⟨_, rfl⟩
 obtain ⟨w1, hw1⟩ : ∃ w1, w.alloc (.cells #[.string k.1.1, .int .i64 k.1.2.1, .int .i64 k.1.2.2, .int .i64 k.2] 24) = w1 := ⟨_, rfl⟩
 have HXB1 : Hid (Wh 24 w1 s0 (rtC k)) := Lib.hid (by rw [← hw1, ← hs0]; exact Wh.new w _ _)
 have HB1 : Hid (Below w.heap.size w w1) := Lib.hid (by rw [← hw1]; exact below_alloc_new _)
 have HS0 := Lib.hid hs0
 have HNL := Lib.hid hnl
 have HZ1 := Lib.hid (hz.up HB1.out)
 have HOL := Lib.hid hok
 have HOK := Lib.hid hkk
 have HGM := Lib.hid hgm
 have HNM := Lib.hid hnm
 have HBC : Hid (Below w.heap.size w w1) := HB1
 clear hnl hz hok hkk hgm hnm
 have HM1 : Hid True := Lib.hid trivial
 go_enter Try.func3, Try.ntmps3
 go_upto_region 3 with (go_at_call 11; refine (HAW.out _).mono ?_; rintro e w2 ⟨rfl, hb⟩; have HB2 : Hid (Below w1.heap.size w1 w2) := Lib.hid hb; clear hb)
 have HXB : Hid (Wh 24 w2 s0 (rtC k)) := Lib.hid (HXB1.out.up HB2.out)
 have HRL : Hid (RowAt lyT w2 A L) := Lib.hid (HZ1.out.up HB2.out)
 obtain ⟨B2, hB2⟩ : ∃ B2, w2.heap.size = B2 := ⟨_, rfl⟩
 have HB2E := Lib.hid hB2
 obtain ⟨Lq, hLq⟩ : ∃ Lq, L ++ [k] = Lq := ⟨_, rfl⟩
 have HLQ := Lib.hid hLq
 obtain ⟨F, hF⟩ : ∃ F, fewT g Lq = F := ⟨_, rfl⟩
 have HFE := Lib.hid hF
 have HFW : Hid (∀ A9 c9 W, RowAt lyT W A9 Lq → Calls Try.prog 12 #[.string g, .slice A9 Lq.length c9] W fun e w' => e = .returned (.bool F) ∧ W = w') := Lib.hid (fun A9 c9 W h => by rw [← hF]; exact few16_any g A9 c9 Lq W h (by rw [← hLq, List.length_append, HNL.out]; have := HNM.out; simp; omega))
 clear hB2 hLq hF
 refine AK.region_facts (Rp := Below0) (Kp := KpT 1) (rtlvF g A n c s0 B2 k F) (rhJ w2 L Lq) [[], [], [], [14, 15], [], [17], [16, 18], [13, 19], [20]] [3, 6] [[], [16], [19]] [2, 2, 2, 2, 2, 2, 2, 2, 2] [0, 0, 0, 0, 0, 0, 0, 2, 0] [] (fun u => by simp only [rtlvF, AK.temps, List.map_cons, List.map_nil, fillL, List.setIfInBounds_toArray, List.set_cons_zero, List.set_cons_succ]; rfl) (by kernel_rfl) (by kernel_rfl) (fun _ _ h => h.1) (fun _ _ h => KpT.of h) (rhJ.st _ _ _) (dc_drew (Below.refl _ _)) ?_ ?_
 ·refine AK.sc (lim := 2) (lo := 0) rfl rfl rfl rfl ?_ ?_
  ·intro k_ u w_ hk_ hl_ hJ hF K hK
   clear hF
   go_simp
   exact hK.out _ _ (Below.refl _ _) (rfl) trivial
  refine AK.sc (lim := 2) (lo := 0) rfl rfl rfl rfl ?_ ?_
  ·intro k_ u w_ hk_ hl_ hJ hF K hK
   clear hF
   go_simp
   have hb9 := rhJ.low hJ
   exact hK.out _ _ (below_alloc_new _) (nilT_new (by rw [← HB2E.out]; exact hb9.size)) trivial
  refine AK.sc (lim := 2) (lo := 0) rfl rfl rfl rfl ?_ ?_
  ·intro k_ u w_ hk_ hl_ hJ hF K hK
   clear hF
   go_simp
   exact hK.out _ _ (Below.refl _ _) (rfl) trivial
  refine AK.ss rfl rfl ?_ ?_
  ·intro u w_ hJ hA_ hF K hK
   have h14 : NilT B2 (u 14) w_ := AK.facts_get hF 14 (by simp)
   have h15 : u 15 = .slice A n c := AK.facts_get hF 15 (by simp)
   clear hF
   simp only [h15] at hK ⊢
   clear h15
   have hb9 := rhJ.low hJ
   refine wp_app_copy (.tmp 14) (.tmp 15) 22 rfl i0 _ Try.underlying22 hi hz1 hz2 hz3 rfl rfl h14 A n c L HNL.out rfl (HRL.out.up hb9) (by have := HNM.out; omega) (by rw [← HB2E.out]; exact hb9.size) ?_
   intro v' w' ho' hb'
   rw [← HB2E.out] at ho'
   exact hK.out _ _ ⟨Below.trans hb9 (hb'.mono hb9.size), fun v hv => by cases hv; exact ho'⟩ (KpT.of hb') trivial
  refine AK.sc (lim := 2) (lo := 0) rfl rfl rfl rfl ?_ ?_
  ·intro k_ u w_ hk_ hl_ hJ hF K hK
   clear hF
   have hb9 := rhJ.low hJ
   refine wp_load_is 24 _ rfl _ rfl (rtVl k) (rate_load (HXB.out.up hb9)) ?_
   exact hK.out _ _ (Below.refl _ _) (rfl) trivial
  refine AK.sc (lim := 2) (lo := 0) rfl rfl rfl rfl ?_ ?_
  ·intro k_ u w_ hk_ hl_ hJ hF K hK
   have h17 : u 17 = rtVl k := AK.facts_get hF 17 (by simp)
   clear hF
   simp only [h17] at hK ⊢
   clear h17
   go_simp
   exact hK.out _ _ (below_alloc_new _) ⟨_, rfl, Wh.new w_ 24 (lyT.all [k])⟩ trivial
  refine AK.ss rfl rfl ?_ ?_
  ·intro u w_ hJ hA_ hF K hK
   have h18 : BoxT [k] (u 18) w_ := AK.facts_get hF 18 (by simp)
   clear hF
   obtain ⟨b18, h18, hw18⟩ := h18
   have hv9 := hJ.2 _ rfl
   simp only [h18] at hK ⊢
   clear h18
   refine wp_app_few (.tmp 16) (.tmp 18) 22 rfl i0 _ Try.underlying22 hi hz1 hz2 hz3 rfl rfl hv9 b18 1 [k] rfl (by decide) rfl hw18 (by have := HNL.out; have := HNM.out; omega) hJ.1.size ?_
   intro v' w' ho' hk' hb'
   rw [HLQ.out] at ho'
   exact hK.out _ _ ⟨hJ.1.trans hb', fun v hv => by cases hv; exact ho'⟩ hk' trivial
  refine AK.sc (lim := 2) (lo := 2) rfl rfl rfl rfl ?_ ?_
  ·intro k_ u w_ hk_ hl_ hJ hF K hK
   obtain rfl : k_ = 2 := by omega
   have h13 : u 13 = .string g := AK.facts_get hF 13 (by simp)
   clear hF
   have hv9 := hJ.2 _ rfl
   obtain ⟨A9, c9, e9, hr9, -⟩ := hv9.reads
   simp only [h13, e9] at hK ⊢
   clear h13 e9
   go_simp
   refine (HFW.out A9 c9 w_ hr9).mono ?_
   rintro e w6 ⟨rfl, rfl⟩
   exact hK.out _ _ (Below.refl _ _) (rfl) trivial
  refine AK.sc (lim := 2) (lo := 0) rfl rfl rfl rfl ?_ ?_
  ·intro k_ u w_ hk_ hl_ hJ hF K hK
   have h20 : u 20 = .bool F := AK.facts_get hF 20 (by simp)
   clear hF
   simp only [h20] at hK ⊢
   clear h20
   go_simp
   exact hK.out _ _ (Below.refl _ _) (rfl) trivial
  exact AK.StepsOk.nil
 ·intro u W9 hJ9 hF
  have h21 : u 21 = .bool (!F) := AK.facts_get hF 21 (by simp [rtlvF, AK.temps])
  clear hF
  have HBC : Hid (Below w2.heap.size w2 W9) := Lib.hid hJ9.1
  clear hJ9
  simp only [h21]
  have HBW : Hid (∀ W, Below w2.heap.size w2 W → Below w.heap.size w W) := Lib.hid (fun W h => (HB1.out.trans (HB2.out.mono HB1.out.size)).trans (h.mono (Nat.le_trans HB1.out.size HB2.out.size)))
  cases F
  ·go_wp2_with fail
   go_ret
   exact ⟨rfl, by have h9 := HBW.out _ HBC.out; first | exact h9 | (rw [← HS0.out]; exact h9)⟩
  have hn2 : n ≤ 200 := by rw [← HNL.out]; exact fewT_pre (g := g) (M := [k]) (by rw [HLQ.out]; exact HFE.out)
  have HN2 := Lib.hid hn2
  clear hn2
  obtain ⟨V, hV⟩ : ∃ V, (rtF L k.1).getD 0 = V := ⟨_, rfl⟩
  obtain ⟨B, hB⟩ : ∃ B, (rtF L k.1).isSome = B := ⟨_, rfl⟩
  obtain ⟨C, hC⟩ : ∃ C, curB g = C := ⟨_, rfl⟩
  obtain ⟨D, hD⟩ : ∃ D, rtV g L = D := ⟨_, rfl⟩
  have HFI : Hid (∀ W, Below w2.heap.size w2 W → Calls Try.prog 13 #[.slice A n c, .string k.1.1, .int .i64 k.1.2.1, .int .i64 k.1.2.2] W fun e w' => e = .returned (.tuple #[.int .i64 V, .bool B]) ∧ Below W.heap.size W w') := Lib.hid (fun W h => by rw [← HNL.out, ← hV, ← hB]; exact find16_any A c L k.1 W (HRL.out.up h) (by have := HNL.out; have := HN2.out; omega))
  have HRF : Hid (∀ W, Below w2.heap.size w2 W → Calls Try.prog 14 #[.slice A n c, .string k.1.1, .int .i64 k.1.2.1, .int .i64 k.1.2.2] W fun e w' => e = .returned (.tuple #[.int .i64 V, .bool B]) ∧ Below W.heap.size W w') := Lib.hid (fun W h => by rw [← HNL.out, ← hV, ← hB]; exact rfind16_any A c L k.1 W (HRL.out.up h) (by have := HNL.out; have := HN2.out; omega))
  have HCU : Hid (∀ W, Calls Try.prog 15 #[.string g] W fun e w' => e = .returned (.bool C) ∧ W = w') := Lib.hid (fun W => by rw [← hC]; exact rtcurP_any g W)
  have HRC : Hid (∀ W, Calls Try.prog 16 #[.string g] W fun e w' => e = .returned (.bool C) ∧ W = w') := Lib.hid (fun W => by rw [← hC]; exact rtcurR_any g W HGM.out)
  have HVA : Hid (∀ W, Below w2.heap.size w2 W → Calls Try.prog 17 #[.string g, .slice A n c] W fun e w' => e = .returned (.bool D) ∧ Below W.heap.size W w') := Lib.hid (fun W h => by rw [← HNL.out, ← hD]; exact valid16_any g A c L W (HRL.out.up h) (by have := HNL.out; have := HN2.out; omega) HOL.out)
  have HRV : Hid (∀ W, Below w2.heap.size w2 W → Calls Try.prog 18 #[.string g, .slice A n c] W fun e w' => e = .returned (.bool D) ∧ Below W.heap.size W w') := Lib.hid (fun W h => by rw [← HNL.out, ← hD]; exact rvalid16_any g A c L W (HRL.out.up h) (by have := HNL.out; have := HN2.out; omega) HGM.out HOL.out)
  clear hV hB hC hD
  have cs_ := HXB.out.up HBC.out
  have c0 := cs_.at 0 _ rfl
  have c1 := cs_.at 1 _ rfl
  have c2 := cs_.at 2 _ rfl
  clear cs_
  go_wp2_with (first
   | (go_at_call 13; refine (HFI.out _ HBC.out).mono ?_; rintro e w3 ⟨rfl, hb⟩; have hB3 := Lib.hid (HBC.out.trans (hb.mono HBC.out.size)); clear HBC; have HBC := hB3; clear hB3 hb; have cs_ := HXB.out.up HBC.out; have c0 := cs_.at 0 _ rfl; have c1 := cs_.at 1 _ rfl; have c2 := cs_.at 2 _ rfl; clear cs_)
   | (go_at_call 14; refine (HRF.out _ HBC.out).mono ?_; rintro e w4 ⟨rfl, hb⟩; have hB3 := Lib.hid (HBC.out.trans (hb.mono HBC.out.size)); clear HBC; have HBC := hB3; clear hB3 hb; have cs_ := HXB.out.up HBC.out; have c0 := cs_.at 0 _ rfl; have c1 := cs_.at 1 _ rfl; have c2 := cs_.at 2 _ rfl; clear cs_)
   | (go_at_call 15; refine (HCU.out _).mono ?_; rintro e w5 ⟨rfl, rfl⟩)
   | (go_at_call 16; refine (HRC.out _).mono ?_; rintro e w6 ⟨rfl, rfl⟩)
   | (go_at_call 17; refine (HVA.out _ HBC.out).mono ?_; rintro e w7 ⟨rfl, hb⟩; have hB3 := Lib.hid (HBC.out.trans (hb.mono HBC.out.size)); clear HBC; have HBC := hB3; clear hB3 hb; have cs_ := HXB.out.up HBC.out; have c0 := cs_.at 0 _ rfl; have c1 := cs_.at 1 _ rfl; have c2 := cs_.at 2 _ rfl; clear cs_)
   | (go_at_call 18; refine (HRV.out _ HBC.out).mono ?_; rintro e w8 ⟨rfl, hb⟩; have hB3 := Lib.hid (HBC.out.trans (hb.mono HBC.out.size)); clear HBC; have HBC := hB3; clear hB3 hb; have cs_ := HXB.out.up HBC.out; have c0 := cs_.at 0 _ rfl; have c1 := cs_.at 1 _ rfl; have c2 := cs_.at 2 _ rfl; clear cs_))
  go_ret
  exact ⟨by first | rfl | simp, by have h9 := HBW.out _ HBC.out; first | exact h9 | (rw [← HS0.out]; exact h9)⟩
end Go.Proofs.Ytihgnnocagfdeaa
