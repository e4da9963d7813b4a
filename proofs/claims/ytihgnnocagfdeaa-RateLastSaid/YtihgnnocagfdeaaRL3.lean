/- Contracts of the functions that the statements reach, part 3: what was proved of each, callees first. -/
import Derived.SizedLaws
import Derived.Test.YtihgnnocagfdeaaRL2
namespace Go.Proofs.Ytihgnnocagfdeaa
open Go.RowKit Go.Sort
def lastR (H : List Rt) (q : RK) : Rt := (H.reverse.find? fun r => decide (r.1 = q)).getD rt0
theorem lastR_snoc (H : List Rt) (r : Rt) (q : RK) : lastR (H ++ [r]) q = if r.1 = q then r else lastR H q := by
 unfold lastR
 rw [List.reverse_append, List.reverse_singleton, List.singleton_append, List.find?_cons]
 by_cases h : r.1 = q
 ·rw [decide_eq_true h, if_pos h]; rfl
 ·rw [decide_eq_false h, if_neg h]
theorem lastR_cur {H : List Rt} {r : Rt} (h : r ∈ rtL H) : lastR H r.1 = r := by
 have h1 := (rtL_mem H r).1 h
 unfold tbF rtF at h1
 rw [Option.map_eq_some_iff] at h1
 obtain ⟨x, h2, h3⟩ := h1
 unfold lastR
 rw [h2]
 have h4 := List.find?_some h2
 simp only [decide_eq_true_eq] at h4
 exact Prod.ext h4 h3
def rtlaA (bc oc m c7 i i1 : Nat) (r0 r : Rt) : List (Nat × AK.Fact (Below0)) := [(44, AK.Fact.is (.int .i64 (i : Int))), (45, AK.Fact.is (.bool true)), (46, AK.Fact.is (.bool true)), (47, AK.Fact.is (.slice (some ⟨bc, oc, none⟩) m c7)), (48, AK.Fact.is (.int .i64 (i : Int))), (49, AK.Fact.is (.int .i64 (i1 : Int))), (50, AK.Fact.is (.pointer (some ⟨bc, oc + i1 * 4, none⟩))), (51, AK.Fact.is (rtVl r0)), (52, AK.Fact.is (.slice (some ⟨bc, oc, none⟩) m c7)), (53, AK.Fact.is (.int .i64 (i : Int))), (54, AK.Fact.is (.pointer (some ⟨bc, oc + i * 4, none⟩))), (55, AK.Fact.is (rtVl r)), (56, AK.Fact.is (.bool true)), (57, AK.Fact.is (.bool false)), (58, AK.Fact.is (.bool false))]
def rtlaB (_bc _oc _m _c7 i : Nat) : List (Nat × AK.Fact (Below0)) := [(44, AK.Fact.is (.int .i64 (i : Int))), (45, AK.Fact.is (.bool false)), (46, AK.Fact.is (.bool false)), (47, AK.Fact.is (undef)), (48, AK.Fact.is (undef)), (49, AK.Fact.is (undef)), (50, AK.Fact.is (undef)), (51, AK.Fact.is (undef)), (52, AK.Fact.is (undef)), (53, AK.Fact.is (undef)), (54, AK.Fact.is (undef)), (55, AK.Fact.is (undef)), (56, AK.Fact.is (undef)), (57, AK.Fact.is (undef)), (58, AK.Fact.is (.bool false))]
def rtlaC (bc oc m c7 i bh oh h c8 k : Nat) (x r : Rt) (Kq : Bool) : List (Nat × AK.Fact (Below0)) := [(66, AK.Fact.is (.slice (some ⟨bh, oh, none⟩) h c8)), (67, AK.Fact.is (.int .i64 (k : Int))), (68, AK.Fact.is (.pointer (some ⟨bh, oh + k * 4, none⟩))), (69, AK.Fact.is (rtVl x)), (70, AK.Fact.is (.slice (some ⟨bc, oc, none⟩) m c7)), (71, AK.Fact.is (.int .i64 (i : Int))), (72, AK.Fact.is (.pointer (some ⟨bc, oc + i * 4, none⟩))), (73, AK.Fact.is (rtVl r)), (74, AK.Fact.is (.bool Kq))]
def rtlaD (bc oc m c7 i _s9 : Nat) (r : Rt) : List (Nat × AK.Fact (Below0)) := [(79, AK.Fact.is (rtVl r)), (80, AK.Fact.is (.slice (some ⟨bc, oc, none⟩) m c7)), (81, AK.Fact.is (.int .i64 (i : Int))), (82, AK.Fact.is (.pointer (some ⟨bc, oc + i * 4, none⟩))), (83, AK.Fact.is (rtVl r)), (84, AK.Fact.is (.bool false))]
set_option maxRecDepth 100000 in
set_option maxHeartbeats 6400000 in
theorem law_rlast16 (g : ByteArray) (A : Option Addr) (n c : Nat) (L : List Rt) (w : World) (hgm : g.size ≤ maxLen) (hnl : L.length = n) (hnm : n ≤ 3518437208780) (hz : RowAt lyT w A L) (hok : ∀ s ∈ L, okT s) :
  Calls Try.prog 7 #[.string g, .slice A n c] w fun e w' => e = .returned (.bool true) ∧ Below w.heap.size w w' := by
 have HAW := Lib.hid awake16_any
 obtain ⟨s0, hs0⟩ : ∃ s0, w.heap.size = s0 := ⟨_, rfl⟩
 have HS0 := Lib.hid hs0
 have HNL := Lib.hid hnl
 have HZ1 := Lib.hid hz
 have HOL := Lib.hid hok
 have HGM := Lib.hid hgm
 have HNM := Lib.hid hnm
 obtain ⟨F, hF⟩ : ∃ F, fewT g L = F := ⟨_, rfl⟩
 have HFE := Lib.hid hF
 have HFW : Hid (∀ W, Below w.heap.size w W → Calls Try.prog 12 #[.string g, .slice A n c] W fun e w' => e = .returned (.bool F) ∧ W = w') := Lib.hid (fun W h => by rw [← hF, ← HNL.out]; exact few16_any g A c L W (HZ1.out.up h) (by rw [HNL.out]; have := HNM.out; omega))
 clear hnl hz hok hgm hnm hF hs0
 have HM1 : Hid True := Lib.hid trivial
 have HM2 : Hid True := Lib.hid trivial
 have HM3 : Hid True := Lib.hid trivial
 have HM4 : Hid True := Lib.hid trivial
 have HM5 : Hid True := Lib.hid trivial
 have HM6 : Hid True := Lib.hid trivial
 have HM7 : Hid True := Lib.hid trivial
 have HM8 : Hid True := Lib.hid trivial
 have HM9 : Hid True := Lib.hid trivial
 have HM10 : Hid True := Lib.hid trivial
 have HM11 : Hid True := Lib.hid trivial
 have HM12 : Hid True := Lib.hid trivial
 have HM13 : Hid True := Lib.hid trivial
 have HM14 : Hid True := Lib.hid trivial
 have HM15 : Hid True := Lib.hid trivial
 have HM16 : Hid True := Lib.hid trivial
 have HM17 : Hid True := Lib.hid trivial
 have HM18 : Hid True := Lib.hid trivial
 have HM19 : Hid True := Lib.hid trivial
 cases F
 ·go_enter Try.func7, Try.ntmps7
  go_wp2_with (first
   | (go_at_call 11; refine (HAW.out _).mono ?_; rintro e w2 ⟨rfl, hb⟩; have HB2 : Hid (Below w.heap.size w w2) := Lib.hid hb; clear hb)
   | (go_at_call 12; refine (HFW.out _ HB2.out).mono ?_; rintro e w3 ⟨rfl, rfl⟩))
  go_ret
  exact ⟨rfl, by have h9 := HB2.out; first | exact h9 | (rw [← HS0.out]; exact h9)⟩
 have HN2 : Hid (n ≤ 200) := Lib.hid (by rw [← HNL.out]; exact fewT_len HFE.out)
 by_cases hcu : curB g = true
 rotate_left
 ·have HNW : Hid (∀ W, Calls Try.prog 19 #[.string g] W fun e w' => e = .returned (.tuple #[.pointer none, .int .i64 1]) ∧ Below W.heap.size W w') := Lib.hid (fun W => (nwT_any g W).mono fun e w' h => ⟨by have h1 := h.1; unfold NwT at h1; rw [if_neg hcu] at h1; exact h1, h.2⟩)
  clear hcu
  have HBC : Hid (Below w.heap.size w w) := Lib.hid (Below.refl _ _)
  go_enter Try.func7, Try.ntmps7
  go_wp2_with (first
   | (go_at_call 11; refine (HAW.out _).mono ?_; rintro e w2 ⟨rfl, hb⟩; have hB3 := Lib.hid (HBC.out.trans (hb.mono HBC.out.size)); clear HBC; have HBC := hB3; clear hB3 hb)
   | (go_at_call 12; refine (HFW.out _ HBC.out).mono ?_; rintro e w3 ⟨rfl, rfl⟩)
   | (go_at_call 19; refine (HNW.out _).mono ?_; rintro e w4 ⟨rfl, hb⟩; have hB3 := Lib.hid (HBC.out.trans (hb.mono HBC.out.size)); clear HBC; have HBC := hB3; clear hB3 hb))
  go_ret
  exact ⟨by first | rfl | simp, by have h9 := HBC.out; first | exact h9 | (rw [← HS0.out]; exact h9)⟩
 have HCU := Lib.hid hcu
 have HNW : Hid (∀ W, Calls Try.prog 19 #[.string g] W fun e w' => (∃ (b : Nat) (j : TD), e = .returned (.tuple #[.pointer (some ⟨b, 0, none⟩), .int .i64 0]) ∧ TP w' W.heap.size (.pointer (some ⟨b, 0, none⟩)) j [] ∧ j.g = g) ∧ Below W.heap.size W w') := Lib.hid (fun W => (nwT_any g W).mono fun e w' h => ⟨by have h1 := h.1; unfold NwT at h1; rw [if_pos hcu] at h1; exact h1, h.2⟩)
 clear hcu
 go_enter Try.func7, Try.ntmps7
 go_upto_region 5 with (first
  | (go_at_call 11; refine (HAW.out _).mono ?_; rintro e w2 ⟨rfl, hb⟩; have HB2 : Hid (Below w.heap.size w w2) := Lib.hid hb; clear hb)
  | (go_at_call 12; refine (HFW.out _ HB2.out).mono ?_; rintro e w3 ⟨rfl, rfl⟩))
 obtain ⟨wl, hwl⟩ : ∃ wl, w2 = wl := ⟨_, rfl⟩
 subst hwl
 have HRL : Hid (RowAt lyT w2 A L) := Lib.hid (HZ1.out.up HB2.out)
 have HBC : Hid (Below w2.heap.size w2 w2) := Lib.hid (Below.refl _ _)
 have HBW : Hid (∀ W, Below w2.heap.size w2 W → Below w.heap.size w W) := Lib.hid (fun W h => HB2.out.trans (h.mono HB2.out.size))
 go_upto_region 9 with (first
  | (clear HM1; go_at_call 19; refine (HNW.out _).mono ?_; rintro e w4 ⟨⟨b3, j, rfl, hj, hg⟩, hb⟩; have HJ3 := Lib.hid (show TP w4 w2.heap.size _ j [] from ⟨hj.1, hj.2.low HBC.out.size⟩); have HGJ := Lib.hid hg; clear hj hg; have hB3 := Lib.hid (HBC.out.trans (hb.mono HBC.out.size)); clear HBC; have HBC := hB3; clear hB3 hb)
  | (clear HM3; go_at_call 29; refine (setO_any A c n L HNL.out HJ3.out (Nat.le_refl _) HBC.out.size HRL.out HBC.out HOL.out (by have := HN2.out; simp; omega)).mono ?_; rintro e w6 ⟨rfl, j5, hm⟩; have HTW := Lib.hid hm.tp; have hB3 := Lib.hid (HBC.out.trans (hm.below HJ3.out HBC.out.size)); clear HBC; have HBC := hB3; clear hB3; clear hm))
 obtain ⟨H1, hH1⟩ : ∃ H1, [] ++ rtH j.g L = H1 := ⟨_, rfl⟩
 rw [hH1] at HTW
 have hH0 : rtH g L = H1 := by rw [← hH1, HGJ.out]; rfl
 have HHL : Hid (H1.length ≤ 200) := Lib.hid (by rw [← hH1]; have h1 := rtH_len j.g L; have := HNL.out; have := HN2.out; simp; omega)
 have HOK1 : Hid (∀ r ∈ H1, okT r) := Lib.hid (fun r hr => HOL.out r (by rw [← hH0] at hr; exact (List.mem_filter.1 hr).1))
 obtain ⟨R, hR⟩ : ∃ R, rtL H1 = R := ⟨_, rfl⟩
 have HRV : Hid (rtV g R = true) := Lib.hid (by rw [← hR]; exact rtL_valid HCU.out (by have := HHL.out; omega) (fun r hr => by rw [← hH0] at hr; exact rtH_ok g L r hr))
 have HRH : Hid (R.length ≤ H1.length) := Lib.hid (by rw [← hR]; exact rtL_len H1)
 have HAS : Hid (AscT R) := Lib.hid (by rw [← hR]; exact rtL_asc H1)
 have HLC9 : Hid (∀ r ∈ R, lastR H1 r.1 = r) := Lib.hid (fun r hr => lastR_cur (by rw [hR]; exact hr))
 have HRO : Hid (∀ r ∈ R, okT r) := Lib.hid (fun r hr => by
  rw [← hR] at hr
  exact HOK1.out r (tbF_mem ((rtL_mem H1 r).1 hr)))
 have HLI : Hid (∀ P j W, TP W w2.heap.size P j H1 → Calls Try.prog 28 #[P] W fun e w' => (∃ A4 c4, e = .returned (.slice A4 R.length c4) ∧ RowAt lyT w' A4 R) ∧ Below W.heap.size W w') := Lib.hid (fun P j W h => by
  have h2 := listP_any h (by have := HHL.out; omega)
  rw [hR] at h2
  exact h2.mono fun e w' h1 => ⟨RowR.of h1.1, h1.2⟩)
 have HHI : Hid (∀ P j W, TP W w2.heap.size P j H1 → Calls Try.prog 26 #[P] W fun e w' => (∃ A4 c4, e = .returned (.slice A4 H1.length c4) ∧ RowAt lyT w' A4 H1) ∧ Below W.heap.size W w') := Lib.hid (fun P j W h => (hisP_any h (by have := HHL.out; omega)).mono fun e w' h1 => ⟨RowR.of h1.1, h1.2⟩)
 have HVA : Hid (∀ A4 c4 W, RowAt lyT W A4 R → Calls Try.prog 17 #[.string g, .slice A4 R.length c4] W fun e w' => e = .returned (.bool true) ∧ Below W.heap.size W w') := Lib.hid (fun A4 c4 W h => by
  have h1 := valid16_any g A4 c4 R W h (by have := HRH.out; have := HHL.out; omega) HRO.out
  rw [HRV.out] at h1
  exact h1)
 clear hH1 hH0 hR
 go_upto_region 11 with (first
  | (clear HM4; go_at_call 28; refine (HLI.out _ _ _ HTW.out).mono ?_; rintro e w7 ⟨⟨A7, c7, rfl, hr⟩, hb⟩; have HR7 := Lib.hid hr; clear hr; have ht_ := Lib.hid (HTW.out.up hb); clear HTW; have HTW := ht_; clear ht_; have hB3 := Lib.hid (HBC.out.trans (hb.mono HBC.out.size)); clear HBC; have HBC := hB3; clear hB3 hb)
  | (clear HM5; go_at_call 26; refine (HHI.out _ _ _ HTW.out).mono ?_; rintro e w8 ⟨⟨A8, c8, rfl, hr⟩, hb⟩; have HR8 := Lib.hid hr; have hr7 := Lib.hid (HR7.out.up hb); clear hr HR7; have HR7 := hr7; clear hr7; have hB3 := Lib.hid (HBC.out.trans (hb.mono HBC.out.size)); clear HBC; have HBC := hB3; clear hB3 hb)
  | (clear HM6; go_at_call 17; refine (HVA.out _ _ _ HR7.out).mono ?_; rintro e w9 ⟨rfl, hb⟩; have hr7 := Lib.hid (HR7.out.up hb); have hr8 := Lib.hid (HR8.out.up hb); clear HR7 HR8; have HR7 := hr7; have HR8 := hr8; clear hr7 hr8; have hB3 := Lib.hid (HBC.out.trans (hb.mono HBC.out.size)); clear HBC; have HBC := hB3; clear hB3 hb))
 obtain ⟨m, hm⟩ : ∃ m, R.length = m := ⟨_, rfl⟩
 obtain ⟨h, hh⟩ : ∃ h, H1.length = h := ⟨_, rfl⟩
 have HML := Lib.hid hm
 have HHE := Lib.hid hh
 have hmh : m ≤ h := by rw [← hm, ← hh]; exact HRH.out
 have hh2 : h ≤ 200 := by rw [← hh]; exact HHL.out
 have HMH := Lib.hid hmh
 have HH2 := Lib.hid hh2
 rw [hm, hh]
 clear hm hh hmh
 obtain ⟨wb, hwb⟩ : ∃ wb, w9 = wb := ⟨_, rfl⟩
 subst hwb
 go_wp2_with fail
 go_loopg [9] m (fun kx s9 wr => ∃ i : Nat, s9 = .int .i64 (i : Int) ∧ i ≤ m ∧ m - i ≤ kx ∧ Hid (Below w9.heap.size w9 wr))
 case atStart => exact ⟨0, rfl, by omega, by omega, Lib.hid (Below.refl _ _)⟩
 case round =>
  obtain ⟨i, rfl, hi, hix, HB⟩ := hrel
  by_cases hlt : i < m
  ·have hltz : (i : Int) < (m : Int) := by omega
   obtain ⟨r, hr⟩ : ∃ r, R[i]? = some r := ⟨_, List.getElem?_eq_getElem (by rw [HML.out]; exact hlt)⟩
   obtain ⟨bc, oc, hA7, -, hld⟩ := rt_get HR7.out hr
   subst hA7
   have HLY9 := Lib.hid hld
   have HLZ := Lib.hid hltz
   have HMEM := Lib.hid (List.mem_of_getElem? hr)
   have HMX : Hid (m ≤ 200) := Lib.hid (by have := HMH.out; have := HH2.out; omega)
   obtain ⟨G, hG⟩ : ∃ G, decide (0 < i) = G := ⟨_, rfl⟩
   cases G
   ·have hi0 : i = 0 := by have := of_decide_eq_false hG; omega
    have HGT : Hid (decide ((i : Int) > 0) = false ∧ decide (0 < (i : Int)) = false ∧ decide (0 < i) = false) := Lib.hid ⟨decide_eq_false (by omega), decide_eq_false (by omega), decide_eq_false (by omega)⟩
    clear hr hld hG hi0
    go_upto_region 15 with fail
    refine AK.region_facts (Rp := Below0) (Kp := Below0) (rtlaB bc oc m c7 i) (fun _ _ W => Below wr.heap.size wr W) [[], [44], [45], [46], [46], [46], [46], [46], [46], [46], [46], [46], [46], [46], [46, 57]] [] [[]] [0, 0, 0, 0, 0, 0, 0, 0, 0, 0, 0, 0, 0, 0, 0] [0, 0, 0, 0, 0, 0, 0, 0, 0, 0, 0, 0, 0, 0, 0] [] (fun u => by simp only [rtlaB, AK.temps, List.map_cons, List.map_nil, fillL, List.setIfInBounds_toArray, List.set_cons_zero, List.set_cons_succ]; rfl) (by kernel_rfl) (by kernel_rfl) (fun _ _ h => h.size) (fun _ _ h => h) (fun _ _ _ _ hb h => h.trans (hb.mono h.size)) (dc_drew (Below.refl _ _)) ?_ ?_
    ·refine AK.sc (lim := 0) (lo := 0) rfl rfl rfl rfl ?_ ?_
     ·intro k_ u w_ hk_ hl_ hJ hF K hK
      clear hF
      go_simp
      exact hK.out _ _ (Below.refl _ _) (rfl) trivial
     refine AK.sc (lim := 0) (lo := 0) rfl rfl rfl rfl ?_ ?_
     ·intro k_ u w_ hk_ hl_ hJ hF K hK
      have h44 : u 44 = .int .i64 (i : Int) := AK.facts_get hF 44 (by simp)
      clear hF
      simp only [h44] at hK ⊢
      clear h44
      have hg_ := HGT.out.1
      have hg2_ := HGT.out.2.1
      have hg3_ := HGT.out.2.2
      go_simp
      exact hK.out _ _ (Below.refl _ _) (rfl) trivial
     refine AK.sc (lim := 0) (lo := 0) rfl rfl rfl rfl ?_ ?_
     ·intro k_ u w_ hk_ hl_ hJ hF K hK
      have h45 : u 45 = .bool false := AK.facts_get hF 45 (by simp)
      clear hF
      simp only [h45] at hK ⊢
      clear h45
      go_simp
      exact hK.out _ _ (Below.refl _ _) (rfl) trivial
     refine AK.sc (lim := 0) (lo := 0) rfl rfl rfl rfl ?_ ?_
     ·intro k_ u w_ hk_ hl_ hJ hF K hK
      have h46 : u 46 = .bool false := AK.facts_get hF 46 (by simp)
      clear hF
      simp only [h46] at hK ⊢
      clear h46
      go_simp
      exact hK.out _ _ (Below.refl _ _) (rfl) trivial
     refine AK.sc (lim := 0) (lo := 0) rfl rfl rfl rfl ?_ ?_
     ·intro k_ u w_ hk_ hl_ hJ hF K hK
      have h46 : u 46 = .bool false := AK.facts_get hF 46 (by simp)
      clear hF
      simp only [h46] at hK ⊢
      clear h46
      go_simp
      exact hK.out _ _ (Below.refl _ _) (rfl) trivial
     refine AK.sc (lim := 0) (lo := 0) rfl rfl rfl rfl ?_ ?_
     ·intro k_ u w_ hk_ hl_ hJ hF K hK
      have h46 : u 46 = .bool false := AK.facts_get hF 46 (by simp)
      clear hF
      simp only [h46] at hK ⊢
      clear h46
      go_simp
      exact hK.out _ _ (Below.refl _ _) (rfl) trivial
     refine AK.sc (lim := 0) (lo := 0) rfl rfl rfl rfl ?_ ?_
     ·intro k_ u w_ hk_ hl_ hJ hF K hK
      have h46 : u 46 = .bool false := AK.facts_get hF 46 (by simp)
      clear hF
      simp only [h46] at hK ⊢
      clear h46
      go_simp
      exact hK.out _ _ (Below.refl _ _) (rfl) trivial
     refine AK.sc (lim := 0) (lo := 0) rfl rfl rfl rfl ?_ ?_
     ·intro k_ u w_ hk_ hl_ hJ hF K hK
      have h46 : u 46 = .bool false := AK.facts_get hF 46 (by simp)
      clear hF
      simp only [h46] at hK ⊢
      clear h46
      go_simp
      exact hK.out _ _ (Below.refl _ _) (rfl) trivial
     refine AK.sc (lim := 0) (lo := 0) rfl rfl rfl rfl ?_ ?_
     ·intro k_ u w_ hk_ hl_ hJ hF K hK
      have h46 : u 46 = .bool false := AK.facts_get hF 46 (by simp)
      clear hF
      simp only [h46] at hK ⊢
      clear h46
      go_simp
      exact hK.out _ _ (Below.refl _ _) (rfl) trivial
     refine AK.sc (lim := 0) (lo := 0) rfl rfl rfl rfl ?_ ?_
     ·intro k_ u w_ hk_ hl_ hJ hF K hK
      have h46 : u 46 = .bool false := AK.facts_get hF 46 (by simp)
      clear hF
      simp only [h46] at hK ⊢
      clear h46
      go_simp
      exact hK.out _ _ (Below.refl _ _) (rfl) trivial
     refine AK.sc (lim := 0) (lo := 0) rfl rfl rfl rfl ?_ ?_
     ·intro k_ u w_ hk_ hl_ hJ hF K hK
      have h46 : u 46 = .bool false := AK.facts_get hF 46 (by simp)
      clear hF
      simp only [h46] at hK ⊢
      clear h46
      go_simp
      exact hK.out _ _ (Below.refl _ _) (rfl) trivial
     refine AK.sc (lim := 0) (lo := 0) rfl rfl rfl rfl ?_ ?_
     ·intro k_ u w_ hk_ hl_ hJ hF K hK
      have h46 : u 46 = .bool false := AK.facts_get hF 46 (by simp)
      clear hF
      simp only [h46] at hK ⊢
      clear h46
      go_simp
      exact hK.out _ _ (Below.refl _ _) (rfl) trivial
     refine AK.sc (lim := 0) (lo := 0) rfl rfl rfl rfl ?_ ?_
     ·intro k_ u w_ hk_ hl_ hJ hF K hK
      have h46 : u 46 = .bool false := AK.facts_get hF 46 (by simp)
      clear hF
      simp only [h46] at hK ⊢
      clear h46
      go_simp
      exact hK.out _ _ (Below.refl _ _) (rfl) trivial
     refine AK.sc (lim := 0) (lo := 0) rfl rfl rfl rfl ?_ ?_
     ·intro k_ u w_ hk_ hl_ hJ hF K hK
      have h46 : u 46 = .bool false := AK.facts_get hF 46 (by simp)
      clear hF
      simp only [h46] at hK ⊢
      clear h46
      go_simp
      exact hK.out _ _ (Below.refl _ _) (rfl) trivial
     refine AK.sc (lim := 0) (lo := 0) rfl rfl rfl rfl ?_ ?_
     ·intro k_ u w_ hk_ hl_ hJ hF K hK
      have h46 : u 46 = .bool false := AK.facts_get hF 46 (by simp)
      have h57 : u 57 = undef := AK.facts_get hF 57 (by simp)
      clear hF
      simp only [h46, h57] at hK ⊢
      clear h46 h57
      go_simp
      exact hK.out _ _ (Below.refl _ _) (rfl) trivial
     exact AK.StepsOk.nil
    ·intro u W9 hJ9 hF
     have h58 : u 58 = .bool false := AK.facts_get hF 58 (by simp [rtlaB, AK.temps])
     clear hF
     simp only [h58]
     have HB15 : Hid (Below w9.heap.size w9 W9) := Lib.hid (HB.out.trans (hJ9.mono HB.out.size))
     clear hJ9
     obtain ⟨s9, hs9⟩ : ∃ s9, W9.heap.size = s9 := ⟨_, rfl⟩
     have HXK : Hid (Wh 24 (W9.alloc (.cells #[.string ⟨#[]⟩, .int .i64 0, .int .i64 0, .int .i64 0] 24)) s9 (rtC rt0)) := Lib.hid (by rw [← hs9]; exact Wh.new W9 24 (rtC rt0))
     have HBK : Hid (Below w9.heap.size w9 (W9.alloc (.cells #[.string ⟨#[]⟩, .int .i64 0, .int .i64 0, .int .i64 0] 24))) := Lib.hid (HB15.out.trans ((below_alloc_new _).mono HB15.out.size))
     have HS9 : Hid (w9.heap.size ≤ s9) := Lib.hid (by rw [← hs9]; exact HB15.out.size)
     have hLR0 : lastR (H1.take 0) r.1 = rt0 := rfl
     have HLR0 := Lib.hid hLR0
     clear hLR0
     have hbz : ∀ W, (Instr.build 24 #[]).run Try.prog W = .ok (.agg #[.string ⟨#[]⟩, .int .i64 0, .int .i64 0, .int .i64 0]) W := fun W => run_build W 24 _ _ (by kernel_rfl)
     go_wp2_with fail
     go_loopg [11] h (fun kx s11 wr => ∃ k : Nat, s11 = .int .i64 (k : Int) ∧ k ≤ h ∧ h - k ≤ kx ∧ Hid (Below w9.heap.size w9 wr) ∧ Hid (Wh 24 wr s9 (rtC (lastR (H1.take k) r.1))))
     case atStart => exact ⟨0, rfl, by omega, by omega, HBK, by rw [HLR0.out]; exact HXK⟩
     case round =>
      obtain ⟨k, rfl, hk, hkx, HBK2, HXL0⟩ := hrel
      have hltz := HLZ.out
      have HLC : Hid (∀ W, Below wr.heap.size wr W → (Instr.loadAt 24 (.pointer (some ⟨bc, oc + i * 4, none⟩))).run Try.prog W = .ok (rtVl r) W) := Lib.hid (fun W h => HLY9.out W (HBK2.out.trans (h.mono HBK2.out.size)))
      by_cases hkl : k < h
      ·have hkz : (k : Int) < (h : Int) := by omega
       obtain ⟨x, hx⟩ : ∃ x, H1[k]? = some x := ⟨_, List.getElem?_eq_getElem (by rw [HHE.out]; exact hkl)⟩
       obtain ⟨bh, oh, hA8, -, hldh⟩ := rt_get HR8.out hx
       subst hA8
       have HKZ := Lib.hid hkz
       have HLH : Hid (∀ W, Below wr.heap.size wr W → (Instr.loadAt 24 (.pointer (some ⟨bh, oh + k * 4, none⟩))).run Try.prog W = .ok (rtVl x) W) := Lib.hid (fun W h => hldh W (HBK2.out.trans (h.mono HBK2.out.size)))
       have HTK : Hid (lastR (H1.take (k + 1)) r.1 = if x.1 = r.1 then x else lastR (H1.take k) r.1) := Lib.hid (by rw [List.take_add_one, hx]; exact lastR_snoc _ _ _)
       obtain ⟨Kq, hKq⟩ : ∃ Kq, decide (x.1 = r.1) = Kq := ⟨_, rfl⟩
       have HSK : Hid (∀ W, Calls Try.prog 30 #[rtVl x, rtVl r] W fun e w' => e = .returned (.bool Kq) ∧ Below W.heap.size W w') := Lib.hid (fun W => by rw [← hKq]; exact sameKey_any x r W)
       have HKE := Lib.hid hKq
       clear hx hldh hKq
       go_upto_region 21 with fail
       refine AK.region_facts (Rp := Below0) (Kp := Below0) (rtlaC bc oc m c7 i bh oh h c8 k x r Kq) (fun _ _ W => Below wr.heap.size wr W) [[], [], [66, 67], [68], [], [], [70, 71], [72], [69, 73]] [] [[]] [0, 0, 0, 0, 0, 0, 0, 0, 0] [0, 0, 0, 0, 0, 0, 0, 0, 0] [] (fun u => by simp only [rtlaC, AK.temps, List.map_cons, List.map_nil, fillL, List.setIfInBounds_toArray, List.set_cons_zero, List.set_cons_succ]; rfl) (by kernel_rfl) (by kernel_rfl) (fun _ _ h => h.size) (fun _ _ h => h) (fun _ _ _ _ hb h => h.trans (hb.mono h.size)) (dc_drew (Below.refl _ _)) ?_ ?_
       ·refine AK.sc (lim := 0) (lo := 0) rfl rfl rfl rfl ?_ ?_
        ·intro k_ u w_ hk_ hl_ hJ hF K hK
         clear hF
         go_simp
         exact hK.out _ _ (Below.refl _ _) (rfl) trivial
        refine AK.sc (lim := 0) (lo := 0) rfl rfl rfl rfl ?_ ?_
        ·intro k_ u w_ hk_ hl_ hJ hF K hK
         clear hF
         go_simp
         exact hK.out _ _ (Below.refl _ _) (rfl) trivial
        refine AK.sc (lim := 0) (lo := 0) rfl rfl rfl rfl ?_ ?_
        ·intro k_ u w_ hk_ hl_ hJ hF K hK
         have h66 : u 66 = .slice (some ⟨bh, oh, none⟩) h c8 := AK.facts_get hF 66 (by simp)
         have h67 : u 67 = .int .i64 (k : Int) := AK.facts_get hF 67 (by simp)
         clear hF
         simp only [h66, h67] at hK ⊢
         clear h66 h67
         have hl_ := HKZ.out
         go_simp
         exact hK.out _ _ (Below.refl _ _) (rfl) trivial
        refine AK.sc (lim := 0) (lo := 0) rfl rfl rfl rfl ?_ ?_
        ·intro k_ u w_ hk_ hl_ hJ hF K hK
         have h68 : u 68 = .pointer (some ⟨bh, oh + k * 4, none⟩) := AK.facts_get hF 68 (by simp)
         clear hF
         simp only [h68] at hK ⊢
         clear h68
         refine wp_load_is 24 _ rfl _ rfl (rtVl x) (HLH.out _ hJ) ?_
         exact hK.out _ _ (Below.refl _ _) (rfl) trivial
        refine AK.sc (lim := 0) (lo := 0) rfl rfl rfl rfl ?_ ?_
        ·intro k_ u w_ hk_ hl_ hJ hF K hK
         clear hF
         go_simp
         exact hK.out _ _ (Below.refl _ _) (rfl) trivial
        refine AK.sc (lim := 0) (lo := 0) rfl rfl rfl rfl ?_ ?_
        ·intro k_ u w_ hk_ hl_ hJ hF K hK
         clear hF
         go_simp
         exact hK.out _ _ (Below.refl _ _) (rfl) trivial
        refine AK.sc (lim := 0) (lo := 0) rfl rfl rfl rfl ?_ ?_
        ·intro k_ u w_ hk_ hl_ hJ hF K hK
         have h70 : u 70 = .slice (some ⟨bc, oc, none⟩) m c7 := AK.facts_get hF 70 (by simp)
         have h71 : u 71 = .int .i64 (i : Int) := AK.facts_get hF 71 (by simp)
         clear hF
         simp only [h70, h71] at hK ⊢
         clear h70 h71
         have hl_ := HLZ.out
         go_simp
         exact hK.out _ _ (Below.refl _ _) (rfl) trivial
        refine AK.sc (lim := 0) (lo := 0) rfl rfl rfl rfl ?_ ?_
        ·intro k_ u w_ hk_ hl_ hJ hF K hK
         have h72 : u 72 = .pointer (some ⟨bc, oc + i * 4, none⟩) := AK.facts_get hF 72 (by simp)
         clear hF
         simp only [h72] at hK ⊢
         clear h72
         refine wp_load_is 24 _ rfl _ rfl (rtVl r) (HLC.out _ hJ) ?_
         exact hK.out _ _ (Below.refl _ _) (rfl) trivial
        refine AK.sc (lim := 0) (lo := 0) rfl rfl rfl rfl ?_ ?_
        ·intro k_ u w_ hk_ hl_ hJ hF K hK
         have h69 : u 69 = rtVl x := AK.facts_get hF 69 (by simp)
         have h73 : u 73 = rtVl r := AK.facts_get hF 73 (by simp)
         clear hF
         simp only [h69, h73] at hK ⊢
         clear h69 h73
         go_simp
         refine (HSK.out w_).mono ?_
         rintro e w6 ⟨rfl, hb6⟩
         exact hK.out _ _ hb6 (rfl) trivial
        exact AK.StepsOk.nil
       ·intro u W9 hJ9 hF
        have h74 : u 74 = .bool Kq := AK.facts_get hF 74 (by simp [rtlaC, AK.temps])
        clear hF
        simp only [h74]
        have HJ := Lib.hid hJ9
        clear hJ9
        have HB21 : Hid (Below w9.heap.size w9 W9) := Lib.hid (HBK2.out.trans (HJ.out.mono HBK2.out.size))
        have hxk := HXL0.out.up HJ.out
        cases Kq
        ·have HX2 : Hid (Wh 24 W9 s9 (rtC (lastR (H1.take (k + 1)) r.1))) := Lib.hid (by rw [HTK.out, if_neg (of_decide_eq_false HKE.out)]; exact hxk)
         clear hxk
         go_wp2_with fail
         go_roundg (h - (k + 1))
         case measure => omega
         case rel => exact ⟨k + 1, by first | go_num | (have := HH2.out; go_num), by omega, by omega, HB21, HX2⟩
        ·have HXK9 := Lib.hid hxk
         clear hxk
         go_wp2_with (first
          | (refine wpList_load_is rfl 24 _ rfl (.pointer (some ⟨bh, oh + k * 4, none⟩)) rfl (rtVl x) (HLH.out _ HJ.out) ?_)
          | (refine wpList_store_wh rfl 24 _ _ rfl s9 rfl 24 _ (rtC x) rfl HXK9.out rfl (by kernel_rfl) (all_oneCell_toArray fun v hv => lyT.one x v hv) ?_; intro w22 hr22 ho22 hz22))
         go_roundg (h - (k + 1))
         case measure => omega
         case rel => exact ⟨k + 1, by first | go_num | (have := HH2.out; go_num), by omega, by omega, Lib.hid (HB21.out.trans (ho22.out.below (fun q hq => by rw [hq]; exact HS9.out) HB21.out.size)), Lib.hid (by rw [HTK.out, if_pos (of_decide_eq_true HKE.out)]; exact hr22.out)⟩
      ·obtain rfl : k = h := by omega
       have hkz : ¬ (k : Int) < (k : Int) := by omega
       have HXL : Hid (Wh 24 wr s9 (rtC r)) := Lib.hid (by
        have h1 := HXL0.out
        rw [List.take_of_length_le (by rw [HHE.out]; exact Nat.le_refl _), HLC9.out r HMEM.out] at h1
        exact h1)
       go_upto_region 23 with fail
       refine AK.region_facts (Rp := Below0) (Kp := Below0) (rtlaD bc oc m c7 i s9 r) (fun _ _ W => Below wr.heap.size wr W) [[], [], [], [80, 81], [82], [79, 83]] [] [[]] [0, 0, 0, 0, 0, 0] [0, 0, 0, 0, 0, 0] [] (fun u => by simp only [rtlaD, AK.temps, List.map_cons, List.map_nil, fillL, List.setIfInBounds_toArray, List.set_cons_zero, List.set_cons_succ]; rfl) (by kernel_rfl) (by kernel_rfl) (fun _ _ h => h.size) (fun _ _ h => h) (fun _ _ _ _ hb h => h.trans (hb.mono h.size)) (dc_drew (Below.refl _ _)) ?_ ?_
       ·refine AK.sc (lim := 0) (lo := 0) rfl rfl rfl rfl ?_ ?_
        ·intro k_ u w_ hk_ hl_ hJ hF K hK
         clear hF
         refine wp_load_is 24 _ rfl _ rfl (rtVl r) (rate_load (HXL.out.up hJ)) ?_
         exact hK.out _ _ (Below.refl _ _) (rfl) trivial
        refine AK.sc (lim := 0) (lo := 0) rfl rfl rfl rfl ?_ ?_
        ·intro k_ u w_ hk_ hl_ hJ hF K hK
         clear hF
         go_simp
         exact hK.out _ _ (Below.refl _ _) (rfl) trivial
        refine AK.sc (lim := 0) (lo := 0) rfl rfl rfl rfl ?_ ?_
        ·intro k_ u w_ hk_ hl_ hJ hF K hK
         clear hF
         go_simp
         exact hK.out _ _ (Below.refl _ _) (rfl) trivial
        refine AK.sc (lim := 0) (lo := 0) rfl rfl rfl rfl ?_ ?_
        ·intro k_ u w_ hk_ hl_ hJ hF K hK
         have h80 : u 80 = .slice (some ⟨bc, oc, none⟩) m c7 := AK.facts_get hF 80 (by simp)
         have h81 : u 81 = .int .i64 (i : Int) := AK.facts_get hF 81 (by simp)
         clear hF
         simp only [h80, h81] at hK ⊢
         clear h80 h81
         have hl_ := HLZ.out
         go_simp
         exact hK.out _ _ (Below.refl _ _) (rfl) trivial
        refine AK.sc (lim := 0) (lo := 0) rfl rfl rfl rfl ?_ ?_
        ·intro k_ u w_ hk_ hl_ hJ hF K hK
         have h82 : u 82 = .pointer (some ⟨bc, oc + i * 4, none⟩) := AK.facts_get hF 82 (by simp)
         clear hF
         simp only [h82] at hK ⊢
         clear h82
         refine wp_load_is 24 _ rfl _ rfl (rtVl r) (HLC.out _ hJ) ?_
         exact hK.out _ _ (Below.refl _ _) (rfl) trivial
        refine AK.sc (lim := 0) (lo := 0) rfl rfl rfl rfl ?_ ?_
        ·intro k_ u w_ hk_ hl_ hJ hF K hK
         have h79 : u 79 = rtVl r := AK.facts_get hF 79 (by simp)
         have h83 : u 83 = rtVl r := AK.facts_get hF 83 (by simp)
         clear hF
         simp only [h79, h83] at hK ⊢
         clear h79 h83
         refine wp_bin_is _ 24 _ _ _ rfl (rtVl r) (rtVl r) (.bool false) rfl rfl (rate_guard _ _ _ _ _) (by rw [rate_neq, decide_eq_true rfl]; rfl) ?_
         exact hK.out _ _ (Below.refl _ _) (rfl) trivial
        exact AK.StepsOk.nil
       ·intro u W9 hJ9 hF
        have h84 : u 84 = .bool false := AK.facts_get hF 84 (by simp [rtlaD, AK.temps])
        clear hF
        simp only [h84]
        have HJ := Lib.hid hJ9
        clear hJ9
        have HB23 : Hid (Below w9.heap.size w9 W9) := Lib.hid (HBK2.out.trans (HJ.out.mono HBK2.out.size))
        have hmx_ := HMX.out
        go_wp2_with fail
        go_roundg (m - (i + 1))
        case measure => omega
        case rel => exact ⟨i + 1, by first | go_num | (have := HMX.out; go_num), by omega, by omega, HB23⟩
   ·have hi0 : 0 < i := of_decide_eq_true hG
    have HGT : Hid (decide ((i : Int) > 0) = true ∧ decide (0 < (i : Int)) = true ∧ decide (0 < i) = true) := Lib.hid ⟨decide_eq_true (by omega), decide_eq_true (by omega), decide_eq_true (by omega)⟩
    obtain ⟨i1, hi1⟩ : ∃ i1, i - 1 = i1 := ⟨_, rfl⟩
    obtain ⟨r0, hr0⟩ : ∃ r0, R[i1]? = some r0 := ⟨_, List.getElem?_eq_getElem (by rw [HML.out]; omega)⟩
    obtain ⟨bc', oc', hA', -, hld0⟩ := rt_get HR7.out hr0
    obtain ⟨rfl, rfl⟩ : bc = bc' ∧ oc = oc' := by simpa using hA'
    have HWR : Hid (IntKind.i64.wrap ((i : Int) - 1) = (i1 : Int) ∧ wrap64 ((i : Int) - 1) = (i1 : Int)) := Lib.hid (by
     have h1 : IntKind.i64.wrap ((i : Int) - 1) = (i1 : Int) := by rw [IntKind.wrap_i64]; have := HMX.out; omega
     exact ⟨h1, by unfold wrap64; have := HMX.out; omega⟩)
    have HL0 : Hid ((i1 : Int) < (m : Int)) := Lib.hid (by omega)
    have HLX : Hid (∀ W, Below wr.heap.size wr W → (Instr.loadAt 24 (.pointer (some ⟨bc, oc + i1 * 4, none⟩))).run Try.prog W = .ok (rtVl r0) W) := Lib.hid (fun W h => hld0 W (HB.out.trans (h.mono HB.out.size)))
    have HLY : Hid (∀ W, Below wr.heap.size wr W → (Instr.loadAt 24 (.pointer (some ⟨bc, oc + i * 4, none⟩))).run Try.prog W = .ok (rtVl r) W) := Lib.hid (fun W h => HLY9.out W (HB.out.trans (h.mono HB.out.size)))
    have HBF : Hid (∀ W, Calls Try.prog 31 #[rtVl r0, rtVl r] W fun e w' => e = .returned (.bool true) ∧ Below W.heap.size W w') := Lib.hid (fun W => by
     have h1 := before_any r0 r W
     have h2 : cmR r0.1 r.1 < 0 := by
      have h3 := List.pairwise_iff_getElem.1 HAS.out i1 i (by rw [HML.out]; omega) (by rw [HML.out]; omega) (by omega)
      obtain ⟨q1, e1⟩ := List.getElem?_eq_some_iff.1 hr0
      obtain ⟨q2, e2⟩ := List.getElem?_eq_some_iff.1 hr
      rw [e1, e2] at h3
      exact h3
     rw [decide_eq_true h2] at h1
     exact h1)
    clear hr hld hG hA' hr0 hld0 hi1 hi0
    go_upto_region 15 with fail
    refine AK.region_facts (Rp := Below0) (Kp := Below0) (rtlaA bc oc m c7 i i1 r0 r) (fun _ _ W => Below wr.heap.size wr W) [[], [44], [45], [46], [46], [48, 46], [47, 49, 46], [50, 46], [46], [46], [52, 53, 46], [54, 46], [51, 55, 46], [56, 46], [46, 57]] [] [[]] [0, 0, 0, 0, 0, 0, 0, 0, 0, 0, 0, 0, 0, 0, 0] [0, 0, 0, 0, 0, 0, 0, 0, 0, 0, 0, 0, 0, 0, 0] [] (fun u => by simp only [rtlaA, AK.temps, List.map_cons, List.map_nil, fillL, List.setIfInBounds_toArray, List.set_cons_zero, List.set_cons_succ]; rfl) (by kernel_rfl) (by kernel_rfl) (fun _ _ h => h.size) (fun _ _ h => h) (fun _ _ _ _ hb h => h.trans (hb.mono h.size)) (dc_drew (Below.refl _ _)) ?_ ?_
    ·refine AK.sc (lim := 0) (lo := 0) rfl rfl rfl rfl ?_ ?_
     ·intro k_ u w_ hk_ hl_ hJ hF K hK
      clear hF
      go_simp
      exact hK.out _ _ (Below.refl _ _) (rfl) trivial
     refine AK.sc (lim := 0) (lo := 0) rfl rfl rfl rfl ?_ ?_
     ·intro k_ u w_ hk_ hl_ hJ hF K hK
      have h44 : u 44 = .int .i64 (i : Int) := AK.facts_get hF 44 (by simp)
      clear hF
      simp only [h44] at hK ⊢
      clear h44
      have hg_ := HGT.out.1
      have hg2_ := HGT.out.2.1
      have hg3_ := HGT.out.2.2
      go_simp
      exact hK.out _ _ (Below.refl _ _) (rfl) trivial
     refine AK.sc (lim := 0) (lo := 0) rfl rfl rfl rfl ?_ ?_
     ·intro k_ u w_ hk_ hl_ hJ hF K hK
      have h45 : u 45 = .bool true := AK.facts_get hF 45 (by simp)
      clear hF
      simp only [h45] at hK ⊢
      clear h45
      go_simp
      exact hK.out _ _ (Below.refl _ _) (rfl) trivial
     refine AK.sc (lim := 0) (lo := 0) rfl rfl rfl rfl ?_ ?_
     ·intro k_ u w_ hk_ hl_ hJ hF K hK
      have h46 : u 46 = .bool true := AK.facts_get hF 46 (by simp)
      clear hF
      simp only [h46] at hK ⊢
      clear h46
      go_simp
      exact hK.out _ _ (Below.refl _ _) (rfl) trivial
     refine AK.sc (lim := 0) (lo := 0) rfl rfl rfl rfl ?_ ?_
     ·intro k_ u w_ hk_ hl_ hJ hF K hK
      have h46 : u 46 = .bool true := AK.facts_get hF 46 (by simp)
      clear hF
      simp only [h46] at hK ⊢
      clear h46
      go_simp
      exact hK.out _ _ (Below.refl _ _) (rfl) trivial
     refine AK.sc (lim := 0) (lo := 0) rfl rfl rfl rfl ?_ ?_
     ·intro k_ u w_ hk_ hl_ hJ hF K hK
      have h48 : u 48 = .int .i64 (i : Int) := AK.facts_get hF 48 (by simp)
      have h46 : u 46 = .bool true := AK.facts_get hF 46 (by simp)
      clear hF
      simp only [h48, h46] at hK ⊢
      clear h48 h46
      have hw_ := HWR.out
      go_simp
      exact hK.out _ _ (Below.refl _ _) (rfl) trivial
     refine AK.sc (lim := 0) (lo := 0) rfl rfl rfl rfl ?_ ?_
     ·intro k_ u w_ hk_ hl_ hJ hF K hK
      have h47 : u 47 = .slice (some ⟨bc, oc, none⟩) m c7 := AK.facts_get hF 47 (by simp)
      have h49 : u 49 = .int .i64 (i1 : Int) := AK.facts_get hF 49 (by simp)
      have h46 : u 46 = .bool true := AK.facts_get hF 46 (by simp)
      clear hF
      simp only [h47, h49, h46] at hK ⊢
      clear h47 h49 h46
      have hl_ := HL0.out
      go_simp
      exact hK.out _ _ (Below.refl _ _) (rfl) trivial
     refine AK.sc (lim := 0) (lo := 0) rfl rfl rfl rfl ?_ ?_
     ·intro k_ u w_ hk_ hl_ hJ hF K hK
      have h50 : u 50 = .pointer (some ⟨bc, oc + i1 * 4, none⟩) := AK.facts_get hF 50 (by simp)
      have h46 : u 46 = .bool true := AK.facts_get hF 46 (by simp)
      clear hF
      simp only [h50, h46] at hK ⊢
      clear h50 h46
      refine wp_load_is 24 _ rfl _ rfl (rtVl r0) (HLX.out _ hJ) ?_
      exact hK.out _ _ (Below.refl _ _) (rfl) trivial
     refine AK.sc (lim := 0) (lo := 0) rfl rfl rfl rfl ?_ ?_
     ·intro k_ u w_ hk_ hl_ hJ hF K hK
      have h46 : u 46 = .bool true := AK.facts_get hF 46 (by simp)
      clear hF
      simp only [h46] at hK ⊢
      clear h46
      go_simp
      exact hK.out _ _ (Below.refl _ _) (rfl) trivial
     refine AK.sc (lim := 0) (lo := 0) rfl rfl rfl rfl ?_ ?_
     ·intro k_ u w_ hk_ hl_ hJ hF K hK
      have h46 : u 46 = .bool true := AK.facts_get hF 46 (by simp)
      clear hF
      simp only [h46] at hK ⊢
      clear h46
      go_simp
      exact hK.out _ _ (Below.refl _ _) (rfl) trivial
     refine AK.sc (lim := 0) (lo := 0) rfl rfl rfl rfl ?_ ?_
     ·intro k_ u w_ hk_ hl_ hJ hF K hK
      have h52 : u 52 = .slice (some ⟨bc, oc, none⟩) m c7 := AK.facts_get hF 52 (by simp)
      have h53 : u 53 = .int .i64 (i : Int) := AK.facts_get hF 53 (by simp)
      have h46 : u 46 = .bool true := AK.facts_get hF 46 (by simp)
      clear hF
      simp only [h52, h53, h46] at hK ⊢
      clear h52 h53 h46
      have hl_ := HLZ.out
      go_simp
      exact hK.out _ _ (Below.refl _ _) (rfl) trivial
     refine AK.sc (lim := 0) (lo := 0) rfl rfl rfl rfl ?_ ?_
     ·intro k_ u w_ hk_ hl_ hJ hF K hK
      have h54 : u 54 = .pointer (some ⟨bc, oc + i * 4, none⟩) := AK.facts_get hF 54 (by simp)
      have h46 : u 46 = .bool true := AK.facts_get hF 46 (by simp)
      clear hF
      simp only [h54, h46] at hK ⊢
      clear h54 h46
      refine wp_load_is 24 _ rfl _ rfl (rtVl r) (HLY.out _ hJ) ?_
      exact hK.out _ _ (Below.refl _ _) (rfl) trivial
     refine AK.sc (lim := 0) (lo := 0) rfl rfl rfl rfl ?_ ?_
     ·intro k_ u w_ hk_ hl_ hJ hF K hK
      have h51 : u 51 = rtVl r0 := AK.facts_get hF 51 (by simp)
      have h55 : u 55 = rtVl r := AK.facts_get hF 55 (by simp)
      have h46 : u 46 = .bool true := AK.facts_get hF 46 (by simp)
      clear hF
      simp only [h51, h55, h46] at hK ⊢
      clear h51 h55 h46
      go_simp
      refine (HBF.out w_).mono ?_
      rintro e w6 ⟨rfl, hb6⟩
      exact hK.out _ _ hb6 (rfl) trivial
     refine AK.sc (lim := 0) (lo := 0) rfl rfl rfl rfl ?_ ?_
     ·intro k_ u w_ hk_ hl_ hJ hF K hK
      have h56 : u 56 = .bool true := AK.facts_get hF 56 (by simp)
      have h46 : u 46 = .bool true := AK.facts_get hF 46 (by simp)
      clear hF
      simp only [h56, h46] at hK ⊢
      clear h56 h46
      go_simp
      exact hK.out _ _ (Below.refl _ _) (rfl) trivial
     refine AK.sc (lim := 0) (lo := 0) rfl rfl rfl rfl ?_ ?_
     ·intro k_ u w_ hk_ hl_ hJ hF K hK
      have h46 : u 46 = .bool true := AK.facts_get hF 46 (by simp)
      have h57 : u 57 = .bool false := AK.facts_get hF 57 (by simp)
      clear hF
      simp only [h46, h57] at hK ⊢
      clear h46 h57
      go_simp
      exact hK.out _ _ (Below.refl _ _) (rfl) trivial
     exact AK.StepsOk.nil
    ·intro u W9 hJ9 hF
     have h58 : u 58 = .bool false := AK.facts_get hF 58 (by simp [rtlaA, AK.temps])
     clear hF
     simp only [h58]
     have HB15 : Hid (Below w9.heap.size w9 W9) := Lib.hid (HB.out.trans (hJ9.mono HB.out.size))
     clear hJ9
     obtain ⟨s9, hs9⟩ : ∃ s9, W9.heap.size = s9 := ⟨_, rfl⟩
     have HXK : Hid (Wh 24 (W9.alloc (.cells #[.string ⟨#[]⟩, .int .i64 0, .int .i64 0, .int .i64 0] 24)) s9 (rtC rt0)) := Lib.hid (by rw [← hs9]; exact Wh.new W9 24 (rtC rt0))
     have HBK : Hid (Below w9.heap.size w9 (W9.alloc (.cells #[.string ⟨#[]⟩, .int .i64 0, .int .i64 0, .int .i64 0] 24))) := Lib.hid (HB15.out.trans ((below_alloc_new _).mono HB15.out.size))
     have HS9 : Hid (w9.heap.size ≤ s9) := Lib.hid (by rw [← hs9]; exact HB15.out.size)
     have hLR0 : lastR (H1.take 0) r.1 = rt0 := rfl
     have HLR0 := Lib.hid hLR0
     clear hLR0
     have hbz : ∀ W, (Instr.build 24 #[]).run Try.prog W = .ok (.agg #[.string ⟨#[]⟩, .int .i64 0, .int .i64 0, .int .i64 0]) W := fun W => run_build W 24 _ _ (by kernel_rfl)
     go_wp2_with fail
     go_loopg [11] h (fun kx s11 wr => ∃ k : Nat, s11 = .int .i64 (k : Int) ∧ k ≤ h ∧ h - k ≤ kx ∧ Hid (Below w9.heap.size w9 wr) ∧ Hid (Wh 24 wr s9 (rtC (lastR (H1.take k) r.1))))
     case atStart => exact ⟨0, rfl, by omega, by omega, HBK, by rw [HLR0.out]; exact HXK⟩
     case round =>
      obtain ⟨k, rfl, hk, hkx, HBK2, HXL0⟩ := hrel
      have hltz := HLZ.out
      have HLC : Hid (∀ W, Below wr.heap.size wr W → (Instr.loadAt 24 (.pointer (some ⟨bc, oc + i * 4, none⟩))).run Try.prog W = .ok (rtVl r) W) := Lib.hid (fun W h => HLY9.out W (HBK2.out.trans (h.mono HBK2.out.size)))
      by_cases hkl : k < h
      ·have hkz : (k : Int) < (h : Int) := by omega
       obtain ⟨x, hx⟩ : ∃ x, H1[k]? = some x := ⟨_, List.getElem?_eq_getElem (by rw [HHE.out]; exact hkl)⟩
       obtain ⟨bh, oh, hA8, -, hldh⟩ := rt_get HR8.out hx
       subst hA8
       have HKZ := Lib.hid hkz
       have HLH : Hid (∀ W, Below wr.heap.size wr W → (Instr.loadAt 24 (.pointer (some ⟨bh, oh + k * 4, none⟩))).run Try.prog W = .ok (rtVl x) W) := Lib.hid (fun W h => hldh W (HBK2.out.trans (h.mono HBK2.out.size)))
       have HTK : Hid (lastR (H1.take (k + 1)) r.1 = if x.1 = r.1 then x else lastR (H1.take k) r.1) := Lib.hid (by rw [List.take_add_one, hx]; exact lastR_snoc _ _ _)
       obtain ⟨Kq, hKq⟩ : ∃ Kq, decide (x.1 = r.1) = Kq := ⟨_, rfl⟩
       have HSK : Hid (∀ W, Calls Try.prog 30 #[rtVl x, rtVl r] W fun e w' => e = .returned (.bool Kq) ∧ Below W.heap.size W w') := Lib.hid (fun W => by rw [← hKq]; exact sameKey_any x r W)
       have HKE := Lib.hid hKq
       clear hx hldh hKq
       go_upto_region 21 with fail
       refine AK.region_facts (Rp := Below0) (Kp := Below0) (rtlaC bc oc m c7 i bh oh h c8 k x r Kq) (fun _ _ W => Below wr.heap.size wr W) [[], [], [66, 67], [68], [], [], [70, 71], [72], [69, 73]] [] [[]] [0, 0, 0, 0, 0, 0, 0, 0, 0] [0, 0, 0, 0, 0, 0, 0, 0, 0] [] (fun u => by simp only [rtlaC, AK.temps, List.map_cons, List.map_nil, fillL, List.setIfInBounds_toArray, List.set_cons_zero, List.set_cons_succ]; rfl) (by kernel_rfl) (by kernel_rfl) (fun _ _ h => h.size) (fun _ _ h => h) (fun _ _ _ _ hb h => h.trans (hb.mono h.size)) (dc_drew (Below.refl _ _)) ?_ ?_
       ·refine AK.sc (lim := 0) (lo := 0) rfl rfl rfl rfl ?_ ?_
        ·intro k_ u w_ hk_ hl_ hJ hF K hK
         clear hF
         go_simp
         exact hK.out _ _ (Below.refl _ _) (rfl) trivial
        refine AK.sc (lim := 0) (lo := 0) rfl rfl rfl rfl ?_ ?_
        ·intro k_ u w_ hk_ hl_ hJ hF K hK
         clear hF
         go_simp
         exact hK.out _ _ (Below.refl _ _) (rfl) trivial
        refine AK.sc (lim := 0) (lo := 0) rfl rfl rfl rfl ?_ ?_
        ·intro k_ u w_ hk_ hl_ hJ hF K hK
         have h66 : u 66 = .slice (some ⟨bh, oh, none⟩) h c8 := AK.facts_get hF 66 (by simp)
         have h67 : u 67 = .int .i64 (k : Int) := AK.facts_get hF 67 (by simp)
         clear hF
         simp only [h66, h67] at hK ⊢
         clear h66 h67
         have hl_ := HKZ.out
         go_simp
         exact hK.out _ _ (Below.refl _ _) (rfl) trivial
        refine AK.sc (lim := 0) (lo := 0) rfl rfl rfl rfl ?_ ?_
        ·intro k_ u w_ hk_ hl_ hJ hF K hK
         have h68 : u 68 = .pointer (some ⟨bh, oh + k * 4, none⟩) := AK.facts_get hF 68 (by simp)
         clear hF
         simp only [h68] at hK ⊢
         clear h68
         refine wp_load_is 24 _ rfl _ rfl (rtVl x) (HLH.out _ hJ) ?_
         exact hK.out _ _ (Below.refl _ _) (rfl) trivial
        refine AK.sc (lim := 0) (lo := 0) rfl rfl rfl rfl ?_ ?_
        ·intro k_ u w_ hk_ hl_ hJ hF K hK
         clear hF
         go_simp
         exact hK.out _ _ (Below.refl _ _) (rfl) trivial
        refine AK.sc (lim := 0) (lo := 0) rfl rfl rfl rfl ?_ ?_
        ·intro k_ u w_ hk_ hl_ hJ hF K hK
         clear hF
         go_simp
         exact hK.out _ _ (Below.refl _ _) (rfl) trivial
        refine AK.sc (lim := 0) (lo := 0) rfl rfl rfl rfl ?_ ?_
        ·intro k_ u w_ hk_ hl_ hJ hF K hK
         have h70 : u 70 = .slice (some ⟨bc, oc, none⟩) m c7 := AK.facts_get hF 70 (by simp)
         have h71 : u 71 = .int .i64 (i : Int) := AK.facts_get hF 71 (by simp)
         clear hF
         simp only [h70, h71] at hK ⊢
         clear h70 h71
         have hl_ := HLZ.out
         go_simp
         exact hK.out _ _ (Below.refl _ _) (rfl) trivial
        refine AK.sc (lim := 0) (lo := 0) rfl rfl rfl rfl ?_ ?_
        ·intro k_ u w_ hk_ hl_ hJ hF K hK
         have h72 : u 72 = .pointer (some ⟨bc, oc + i * 4, none⟩) := AK.facts_get hF 72 (by simp)
         clear hF
         simp only [h72] at hK ⊢
         clear h72
         refine wp_load_is 24 _ rfl _ rfl (rtVl r) (HLC.out _ hJ) ?_
         exact hK.out _ _ (Below.refl _ _) (rfl) trivial
        refine AK.sc (lim := 0) (lo := 0) rfl rfl rfl rfl ?_ ?_
        ·intro k_ u w_ hk_ hl_ hJ hF K hK
         have h69 : u 69 = rtVl x := AK.facts_get hF 69 (by simp)
         have h73 : u 73 = rtVl r := AK.facts_get hF 73 (by simp)
         clear hF
         simp only [h69, h73] at hK ⊢
         clear h69 h73
         go_simp
         refine (HSK.out w_).mono ?_
         rintro e w6 ⟨rfl, hb6⟩
         exact hK.out _ _ hb6 (rfl) trivial
        exact AK.StepsOk.nil
       ·intro u W9 hJ9 hF
        have h74 : u 74 = .bool Kq := AK.facts_get hF 74 (by simp [rtlaC, AK.temps])
        clear hF
        simp only [h74]
        have HJ := Lib.hid hJ9
        clear hJ9
        have HB21 : Hid (Below w9.heap.size w9 W9) := Lib.hid (HBK2.out.trans (HJ.out.mono HBK2.out.size))
        have hxk := HXL0.out.up HJ.out
        cases Kq
        ·have HX2 : Hid (Wh 24 W9 s9 (rtC (lastR (H1.take (k + 1)) r.1))) := Lib.hid (by rw [HTK.out, if_neg (of_decide_eq_false HKE.out)]; exact hxk)
         clear hxk
         go_wp2_with fail
         go_roundg (h - (k + 1))
         case measure => omega
         case rel => exact ⟨k + 1, by first | go_num | (have := HH2.out; go_num), by omega, by omega, HB21, HX2⟩
        ·have HXK9 := Lib.hid hxk
         clear hxk
         go_wp2_with (first
          | (refine wpList_load_is rfl 24 _ rfl (.pointer (some ⟨bh, oh + k * 4, none⟩)) rfl (rtVl x) (HLH.out _ HJ.out) ?_)
          | (refine wpList_store_wh rfl 24 _ _ rfl s9 rfl 24 _ (rtC x) rfl HXK9.out rfl (by kernel_rfl) (all_oneCell_toArray fun v hv => lyT.one x v hv) ?_; intro w22 hr22 ho22 hz22))
         go_roundg (h - (k + 1))
         case measure => omega
         case rel => exact ⟨k + 1, by first | go_num | (have := HH2.out; go_num), by omega, by omega, Lib.hid (HB21.out.trans (ho22.out.below (fun q hq => by rw [hq]; exact HS9.out) HB21.out.size)), Lib.hid (by rw [HTK.out, if_pos (of_decide_eq_true HKE.out)]; exact hr22.out)⟩
      ·obtain rfl : k = h := by omega
       have hkz : ¬ (k : Int) < (k : Int) := by omega
       have HXL : Hid (Wh 24 wr s9 (rtC r)) := Lib.hid (by
        have h1 := HXL0.out
        rw [List.take_of_length_le (by rw [HHE.out]; exact Nat.le_refl _), HLC9.out r HMEM.out] at h1
        exact h1)
       go_upto_region 23 with fail
       refine AK.region_facts (Rp := Below0) (Kp := Below0) (rtlaD bc oc m c7 i s9 r) (fun _ _ W => Below wr.heap.size wr W) [[], [], [], [80, 81], [82], [79, 83]] [] [[]] [0, 0, 0, 0, 0, 0] [0, 0, 0, 0, 0, 0] [] (fun u => by simp only [rtlaD, AK.temps, List.map_cons, List.map_nil, fillL, List.setIfInBounds_toArray, List.set_cons_zero, List.set_cons_succ]; rfl) (by kernel_rfl) (by kernel_rfl) (fun _ _ h => h.size) (fun _ _ h => h) (fun _ _ _ _ hb h => h.trans (hb.mono h.size)) (dc_drew (Below.refl _ _)) ?_ ?_
       ·refine AK.sc (lim := 0) (lo := 0) rfl rfl rfl rfl ?_ ?_
        ·intro k_ u w_ hk_ hl_ hJ hF K hK
         clear hF
         refine wp_load_is 24 _ rfl _ rfl (rtVl r) (rate_load (HXL.out.up hJ)) ?_
         exact hK.out _ _ (Below.refl _ _) (rfl) trivial
        refine AK.sc (lim := 0) (lo := 0) rfl rfl rfl rfl ?_ ?_
        ·intro k_ u w_ hk_ hl_ hJ hF K hK
         clear hF
         go_simp
         exact hK.out _ _ (Below.refl _ _) (rfl) trivial
        refine AK.sc (lim := 0) (lo := 0) rfl rfl rfl rfl ?_ ?_
        ·intro k_ u w_ hk_ hl_ hJ hF K hK
         clear hF
         go_simp
         exact hK.out _ _ (Below.refl _ _) (rfl) trivial
        refine AK.sc (lim := 0) (lo := 0) rfl rfl rfl rfl ?_ ?_
        ·intro k_ u w_ hk_ hl_ hJ hF K hK
         have h80 : u 80 = .slice (some ⟨bc, oc, none⟩) m c7 := AK.facts_get hF 80 (by simp)
         have h81 : u 81 = .int .i64 (i : Int) := AK.facts_get hF 81 (by simp)
         clear hF
         simp only [h80, h81] at hK ⊢
         clear h80 h81
         have hl_ := HLZ.out
         go_simp
         exact hK.out _ _ (Below.refl _ _) (rfl) trivial
        refine AK.sc (lim := 0) (lo := 0) rfl rfl rfl rfl ?_ ?_
        ·intro k_ u w_ hk_ hl_ hJ hF K hK
         have h82 : u 82 = .pointer (some ⟨bc, oc + i * 4, none⟩) := AK.facts_get hF 82 (by simp)
         clear hF
         simp only [h82] at hK ⊢
         clear h82
         refine wp_load_is 24 _ rfl _ rfl (rtVl r) (HLC.out _ hJ) ?_
         exact hK.out _ _ (Below.refl _ _) (rfl) trivial
        refine AK.sc (lim := 0) (lo := 0) rfl rfl rfl rfl ?_ ?_
        ·intro k_ u w_ hk_ hl_ hJ hF K hK
         have h79 : u 79 = rtVl r := AK.facts_get hF 79 (by simp)
         have h83 : u 83 = rtVl r := AK.facts_get hF 83 (by simp)
         clear hF
         simp only [h79, h83] at hK ⊢
         clear h79 h83
         refine wp_bin_is _ 24 _ _ _ rfl (rtVl r) (rtVl r) (.bool false) rfl rfl (rate_guard _ _ _ _ _) (by rw [rate_neq, decide_eq_true rfl]; rfl) ?_
         exact hK.out _ _ (Below.refl _ _) (rfl) trivial
        exact AK.StepsOk.nil
       ·intro u W9 hJ9 hF
        have h84 : u 84 = .bool false := AK.facts_get hF 84 (by simp [rtlaD, AK.temps])
        clear hF
        simp only [h84]
        have HJ := Lib.hid hJ9
        clear hJ9
        have HB23 : Hid (Below w9.heap.size w9 W9) := Lib.hid (HBK2.out.trans (HJ.out.mono HBK2.out.size))
        have hmx_ := HMX.out
        go_wp2_with fail
        go_roundg (m - (i + 1))
        case measure => omega
        case rel => exact ⟨i + 1, by first | go_num | (have := HMX.out; go_num), by omega, by omega, HB23⟩
  ·obtain rfl : i = m := by omega
   have hltz : ¬ (i : Int) < (i : Int) := by omega
   have hge : decide ((h : Int) ≥ (i : Int)) = true := decide_eq_true (by have := HMH.out; omega)
   have hge2 : decide ((i : Int) ≤ (h : Int)) = true := decide_eq_true (by have := HMH.out; omega)
   go_wp2_with fail
   go_ret
   exact ⟨by first | rfl | (simp; have := HMH.out; omega), by have h9 := HBW.out _ (HBC.out.trans (HB.out.mono HBC.out.size)); first | exact h9 | (rw [← HS0.out]; exact h9)⟩
open Go.ChangeShapes Go.WideShapes Go.ChangeAt Go.WideMaps Go.WideElems Go.RowKit Go.Deep Go.Joins
theorem list_of_all {α : Type} {S : Nat → α → Prop} : ∀ n : Nat, (∀ k, k < n → ∃ a, S k a) → ∃ L : List α, L.length = n ∧ ∀ k, k < n → ∃ a, L[k]? = some a ∧ S k a
 | 0, _ => ⟨[], rfl, fun k h => absurd h (by omega)⟩
 | n + 1, h => by
  obtain ⟨L, hl, hL⟩ := list_of_all n fun k hk => h k (by omega)
  obtain ⟨a, ha⟩ := h n (by omega)
  refine ⟨L ++ [a], by simp [hl], fun k hk => ?_⟩
  rcases Nat.lt_or_ge k n with h1 | h1
  ·obtain ⟨b, hb, hs⟩ := hL k h1
   exact ⟨b, by rw [List.getElem?_append_left (by omega)]; exact hb, hs⟩
  ·obtain rfl : k = n := by omega
   exact ⟨a, by rw [List.getElem?_append_right (by omega), hl]; simp, ha⟩
section
variable {H : Type} {enc : TypeId × Value → H} {P : Program} {W : World}
theorem open_rowsG {α : Type} (R : Lay α) {T E : TypeId} {fuel : Nat} {cs : List Value} {x : DataW H × List MemPlace} (hT : P.underlying T = some (.slice E)) (hC : P.cellsOf E = R.s) (q : α → Prop)
  (hread : ∀ fuel cs x, DataW.trod enc P W 0 (fun _ => true) true fuel E cs = some x → ∃ a, cs = R.cel a ∧ q a)
  (hf : DataW.trod enc P W 0 (fun _ => true) true fuel T cs = some x) :
  ∃ A len cap L, cs = [.slice A len cap] ∧ L.length = len ∧ len ≤ 9223372036854775807 ∧ RowAt R W A L ∧ ∀ a ∈ L, q a := by
 rcases open_slice hT hf with ⟨hcs, -⟩ | ⟨a, len, cap, m, n, D, Pl, hcs, -, hl, hm, hmm, -, hx⟩
 ·exact ⟨none, 0, 0, [], hcs, rfl, by omega, RowAt.nil, fun a ha => by cases ha⟩
 ·simp only [if_true] at hmm
  subst hmm
  unfold maxLen at hm
  have key : ∀ k, k < len → ∃ y : α, (∀ j v, (R.cel y)[j]? = some v → W.cell? (a.add (k * R.s + j)) = some v) ∧ q y := by
   intro k hk
   obtain ⟨cs', h1, h2⟩ := hx k (by omega)
   rw [hC] at h1
   obtain ⟨_, hlen, hcell⟩ := World.cells?_some h1
   obtain ⟨y, rfl, hq⟩ := hread _ _ _ h2
   refine ⟨y, fun j v hj => ?_, hq⟩
   have hjl : j < (R.cel y).length := (List.getElem?_eq_some_iff.1 hj).1
   have h4 := hcell j (by rw [R.len] at hjl; omega)
   rw [add_add] at h4
   rw [h4, hj]
  obtain ⟨L, hLl, hL⟩ := list_of_all len key
  obtain ⟨b, off, spot⟩ := a
  refine ⟨_, len, _, L, hcs, hLl, by omega, fun h0 => ?_, fun y hy => ?_⟩
  ·rw [hLl] at h0
   obtain ⟨y0, hy0, hc0, -⟩ := hL 0 h0
   have hz0 := hc0 0 _ (List.getElem?_eq_getElem (by rw [R.len]; exact R.pos))
   have hspot : spot = none := by simpa [Addr.add] using World.cell?_spot hz0
   subst hspot
   have hlt : b < W.heap.size := by
    rcases Nat.lt_or_ge b W.heap.size with hlt | hge
    ·exact hlt
    ·unfold World.cell? at hz0
     rw [show (Addr.add ⟨b, off, none⟩ (0 * R.s + 0)).block = b from by rw [block_add], Array.getElem?_eq_none hge] at hz0
     simp at hz0
   refine ⟨b, off, rfl, hlt, fun j v hj => ?_⟩
   have hjl : j < len * R.s := by
    rw [← hLl, ← R.all_len]
    exact (List.getElem?_eq_some_iff.1 hj).1
   have hs := R.pos
   have hi : j / R.s < len := Nat.div_lt_of_lt_mul (by rw [Nat.mul_comm]; exact hjl)
   obtain ⟨y, hy, hc, -⟩ := hL (j / R.s) hi
   have hr : j % R.s < R.s := Nat.mod_lt _ hs
   have he : j / R.s * R.s + j % R.s = j := by rw [Nat.mul_comm]; exact Nat.div_add_mod _ _
   have h5 := hc (j % R.s) v (by rw [← R.get L (j / R.s) y hy _ hr, he]; exact hj)
   rw [he, Go.WideShapes.add_plain] at h5
   exact h5
  ·obtain ⟨k, hk⟩ := List.getElem?_of_mem hy
   have hkl : k < len := by rw [← hLl]; exact (List.getElem?_eq_some_iff.1 hk).1
   obtain ⟨z, hz, -, hq⟩ := hL k hkl
   rw [hk] at hz
   injection hz with hz
   subst hz
   exact hq
end
section
variable {H : Type} {enc : TypeId × Value → H} {W : World}
end
section
variable {H : Type} {enc : TypeId × Value → H} {P : Program} {w : World} {r : Reach} {b0 base : Nat} {t e : TypeId} {k : IntKind} {spare : Nat → Bool} {held : Bool} {v : Value} {d : DataW H} {ps : List MemPlace}
end
open Go.ChangeShapes Go.WideShapes Go.ChangeAt Go.WideMaps Go.WideElems Go.RowKit Go.Deep Go.Joins
theorem cells4T {cs : List Value} (h : cs.length = 4) : ∃ c0 c1 c2 c3, cs = [c0, c1, c2, c3] := by
 match cs, h with
 | [c0, c1, c2, c3], _ => exact ⟨c0, c1, c2, c3, rfl⟩
section
variable {H : Type} {enc : TypeId × Value → H} {W : World}
set_option maxRecDepth 100000 in
theorem open_rateC {fuel : Nat} {cs : List Value} {x : DataW H × List MemPlace} (hf : DataW.trod enc Try.prog W 0 (fun _ => true) true fuel 24 cs = some x) : ∃ a : Rt, cs = rtC a ∧ okT a := by
 obtain ⟨xs, n', -, -, hlen, hxl, hff⟩ := DataW.trod_struct Try.underlying24 hf
 have hC : Try.prog.cellsOf 24 = 4 := by kernel_rfl
 rw [hC] at hlen
 obtain ⟨c0, c1, c2, c3, e7⟩ := cells4T hlen
 have hxl' : xs.length = 4 := hxl
 have hget : ∀ i, i < 4 → ∃ y, xs[i]? = some y := fun i hi => ⟨_, List.getElem?_eq_getElem (by omega)⟩
 have ki : Try.prog.cellsOf 3 = 1 := by kernel_rfl
 have ks : Try.prog.cellsOf 9 = 1 := by kernel_rfl
 have h0 : DataW.trod enc Try.prog W 0 (fun _ => true) true n' 9 ((cs.drop 0).take (Try.prog.cellsOf 9)) = xs[0]? := hff 0 _ rfl
 obtain ⟨y0, e0⟩ := hget 0 (by omega)
 rw [e0, ks, e7] at h0
 have h1 : DataW.trod enc Try.prog W 0 (fun _ => true) true n' 3 ((cs.drop 1).take (Try.prog.cellsOf 3)) = xs[1]? := hff 1 _ rfl
 obtain ⟨y1, e1⟩ := hget 1 (by omega)
 rw [e1, ki, e7] at h1
 have h2 : DataW.trod enc Try.prog W 0 (fun _ => true) true n' 3 ((cs.drop 2).take (Try.prog.cellsOf 3)) = xs[2]? := hff 2 _ rfl
 obtain ⟨y2, e2⟩ := hget 2 (by omega)
 rw [e2, ki, e7] at h2
 have h3 : DataW.trod enc Try.prog W 0 (fun _ => true) true n' 3 ((cs.drop 3).take (Try.prog.cellsOf 3)) = xs[3]? := hff 3 _ rfl
 obtain ⟨y3, e3⟩ := hget 3 (by omega)
 rw [e3, ki, e7] at h3
 obtain ⟨z0, q0, -, w0⟩ := DataW.trod_string Try.underlying9 h0
 have a0 : c0 = .string z0 := by simpa using q0
 obtain ⟨z1, q1, -, w1⟩ := DataW.trod_int Try.underlying3 h1
 have a1 : c1 = .int .i64 z1 := by simpa using q1
 obtain ⟨z2, q2, -, w2⟩ := DataW.trod_int Try.underlying3 h2
 have a2 : c2 = .int .i64 z2 := by simpa using q2
 obtain ⟨z3, q3, -, w3⟩ := DataW.trod_int Try.underlying3 h3
 have a3 : c3 = .int .i64 z3 := by simpa using q3
 subst a0 a1 a2 a3
 exact ⟨((z0, z1, z2), z3), e7, ⟨w0, w1, w2⟩, w3⟩
def LenT (d : DataW H) (len : Nat) : Prop := d = .nil ∧ len = 0 ∨ ∃ es sp, d = .slice es sp ∧ es.length = len
set_option maxRecDepth 100000 in
theorem open_irates {b0 : Nat} {v : Value} {d : DataW H} {p : List MemPlace} (hval : Value.okWide Try.prog W .any b0 22 v) (h : DataW.Trod enc Try.prog W 0 (fun _ => true) true 22 v d p) :
  ∃ A len c S, v = .slice A len c ∧ S.length = len ∧ LenT d len ∧ RowAt lyT W A S ∧ ∀ s ∈ S, okT s := by
 obtain ⟨a0, len, cap, rfl⟩ := okWide_slice Try.underlying22 hval
 obtain ⟨fuel, hf⟩ := h
 obtain ⟨A, len', c, S, hcs, hl, hm, hr, hq⟩ := open_rowsG lyT Try.underlying22 (by kernel_rfl) okT (fun _ _ _ h => open_rateC h) hf
 simp [Value.cells] at hcs
 obtain ⟨rfl, rfl, rfl⟩ := hcs
 refine ⟨_, _, _, S, rfl, hl, ?_, hr, hq⟩
 rcases open_slice Try.underlying22 hf with ⟨hcs, hx⟩ | ⟨a, len, cap, m, n, D, Pl, hcs, -, hl, hm, hmm, hx, -⟩
 ·simp [Value.cells] at hcs hx
  exact .inl ⟨hx.1, hcs.2.1⟩
 ·simp [Value.cells] at hcs hx
  obtain ⟨rfl, rfl, rfl⟩ := hcs
  exact .inr ⟨_, _, hx.1, by simp⟩
theorem rates_small {ts : List TypeId} {ds : List (DataW H)} (h : (DataW.weightsEach Try.prog ts ds).all (· ≤ reachBytes) = true) {j : Nat} {d : DataW H} (ht : ts[j]? = some 22) (hd : ds[j]? = some d) {len : Nat} (hl : LenT d len) : len ≤ 3518437208780 := by
 rcases hl with ⟨_, rfl⟩ | ⟨es, sp, rfl, rfl⟩
 ·omega
 ·have h1 := sized_slice h ht hd Try.underlying22
  rw [show Try.prog.bytesOf 24 = 40 by kernel_rfl] at h1
  unfold reachBytes at h1
  omega
end
end Go.Proofs.Ytihgnnocagfdeaa
