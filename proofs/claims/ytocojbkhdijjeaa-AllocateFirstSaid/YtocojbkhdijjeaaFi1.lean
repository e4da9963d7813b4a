/- Contracts and the law of AllocateFirst, part 1: what was proved of each, callees first. -/
import Derived.Maps.AppendAt
import Derived.Lib.SmallJoins
import Derived.Test.YtocojbkhdijjeaaI2
namespace Go.Proofs.Ytocojbkhdijjeaa
open Go.RowKit
section
variable {w w' : World} {b : Nat} {L : List Int}
theorem IntsAt.take {A : Option Addr} {zs : List Int} (h : IntsAt .i64 w A zs) (n : Nat) : IntsAt .i64 w A (zs.take n) := fun h0 => by
 obtain ⟨b, off, e, hlt, hc⟩ := h (by rw [List.length_take] at h0; omega)
 refine ⟨b, off, e, hlt, fun i hi => ?_⟩
 rw [List.length_take] at hi
 rw [hc i (by omega), List.getD_eq_getElem?_getD, List.getD_eq_getElem?_getD, List.getElem?_take, if_pos (by omega)]
end
open Go.RowKit
theorem rsum_take {l : List Int} {k j : Nat} (h : j ≤ k) : rsum (l.take k) j = rsum l j := by
 unfold rsum; rw [List.take_take, Nat.min_eq_left h]
theorem rpor_take {l : List Int} {num den : Int} {k j : Nat} (h : j ≤ k) : rpor (l.take k) num den j = rpor l num den j := by
 unfold rpor; rw [rsum_take h]
theorem run_take {l : List Int} {num den : Int} {k : Nat} (hk : k ≤ l.length) (hE : runE l num den = 0) : runE (l.take k) num den = 0 ∧ runL (l.take k) num den = (runL l num den).take k := by
 have hl : runL l num den = runD l num den := by unfold runL; rw [if_pos hE]
 have hlen : (l.take k).length = k := by rw [List.length_take]; omega
 have hE2 : runE (l.take k) num den = 0 := by
  unfold runE at hE ⊢
  split at hE
  ·rename_i h1
   split at hE
   ·rename_i h2
    have h3 : rargB (l.take k) num den = true := by
     unfold rargB at h1 ⊢
     rw [Bool.and_eq_true] at h1 ⊢
     refine ⟨List.all_eq_true.2 fun x hx => List.all_eq_true.1 h1.1 x (List.mem_of_mem_take hx), h1.2⟩
    rw [if_pos h3, hlen, if_pos]
    refine List.all_eq_true.2 fun j hj => ?_
    have hj := List.mem_range.1 hj
    have := List.all_eq_true.1 h2 j (List.mem_range.2 (by omega))
    unfold rokB at this ⊢
    rw [rsum_take (by omega), rpor_take (by omega)]
    exact this
   ·cases hE
  ·cases hE
 refine ⟨hE2, ?_⟩
 have : runL (l.take k) num den = runD (l.take k) num den := by unfold runL; rw [if_pos hE2]
 rw [this, hl]
 apply List.ext_getElem
 ·rw [runD_len, hlen, List.length_take, runD_len]; omega
 ·intro i h1 h2
  have hi : i < k := by rw [runD_len, hlen] at h1; exact h1
  simp only [runD, List.getElem_map, List.getElem_range, List.getElem_take]
  rw [rpor_take (by omega), rpor_take (by omega)]
theorem two_box (w : World) (a b : Int) (t : TypeId) : IB (w.alloc (.cells #[.int .i64 a, .int .i64 b] t)) w.heap.size [a, b] := IB.mk ⟨t, by rw [heap_alloc_new]; rfl⟩
theorem SlC.keep {w w' : World} {v : Value} {L : List Int} (h : SlC w v L) (hk : AS.Keep w w') : SlC w' v L := by
 obtain ⟨A, c, e, hc, h⟩ := h
 refine ⟨A, c, e, hc, fun h0 => ?_⟩
 obtain ⟨b, off, e, hlt, hc⟩ := h h0
 exact ⟨b, off, e, Nat.lt_of_lt_of_le hlt hk.size, fun i hi => (hk.cell hlt (hc i hi)).trans (hc i hi)⟩
def fiR (L : List Int) : AS.Fact := ⟨fun v w => SlC w v L, fun _ _ _ hb h => h.keep hb⟩
def fiT (E : Int) (L : List Int) : AS.Fact := ⟨fun v w => ∃ s, v = .tuple #[s, .int .i64 E] ∧ SlC w s L, fun _ _ _ hb ⟨s, e, h⟩ => ⟨s, e, h.keep hb⟩⟩
def FNo (W : World) : Nat → List Value → World → Prop := fun _ _ w => Below W.heap.size W w
theorem FNo.st (W : World) : ∀ k l w w', Below w.heap.size w w' → FNo W k l w → FNo W k l w' := fun _ _ _ _ hb h => below_more h hb
def fiI (x : Value) : AS.Fact := ⟨fun v _ => v = x, fun _ _ _ _ h => h⟩
def fiFL (b off n c k B : Nat) (num den E : Int) (L : List Int) : List (Nat × AS.Fact) := [(38, fiI (.slice (some ⟨b, off, none⟩) (n : Nat) c)), (39, fiI (.int .i64 (k : Int))), (40, fiI (.slice (some ⟨b, off, none⟩) (k : Nat) c)), (41, fiI (.pointer (some ⟨B, 0, none⟩))), (42, fiI (.int .i64 num)), (43, fiI (.pointer (some ⟨B, 1, none⟩))), (44, fiI (.int .i64 den)), (45, fiT E L), (37, fiT E L), (46, fiR L), (47, fiI (.int .i64 E)), (10, fiR L), (11, fiI (.int .i64 E))]
set_option maxRecDepth 20000 in
set_option maxHeartbeats 1600000 in
theorem alfirst_short (A : Option Addr) (c : Nat) (l : List Int) (num den at' : Int) (w : World) (hz : IntsAt .i64 w A l) (hl0 : 0 < l.length) (hl : l.length ≤ 200) (hc : l.length ≤ c) (hat : 0 ≤ at' ∧ at' ≤ 255) :
  Calls Try.prog 5 #[.slice A l.length c, .agg #[.int .i64 num, .int .i64 den], .int .u8 at'] w fun e w' => e = .returned (.bool true) ∧ Below w.heap.size w w' := by
 obtain ⟨ha1, ha2⟩ := hat
 obtain ⟨n, hn⟩ : ∃ n, l.length = n := ⟨_, rfl⟩
 obtain ⟨k, hk⟩ : ∃ k : Nat, at' % ((n : Int) + 1) = (k : Int) := ⟨(at' % ((n : Int) + 1)).toNat, by have := Int.emod_nonneg at' (show (n : Int) + 1 ≠ 0 by omega); omega⟩
 have hkn : k ≤ n := by
  have h1 : at' % ((n : Int) + 1) < (n : Int) + 1 := Int.emod_lt_of_pos _ (by omega)
  omega
 have hlk : (l.take k).length = k := by rw [List.length_take]; omega
 have hr1 := fun w h => running_cap A c l num den w h (by omega)
 have hr2 := fun w h => running_cap A c (l.take k) num den w h (by omega)
 have hrt := fun hE => run_take (l := l) (num := num) (den := den) (k := k) (by omega) hE
 have hLl : runE l num den = 0 → (runL l num den).length = n := fun h => by unfold runL; rw [if_pos h, runD_len]; exact hn
 rw [hn] at hl hl0 hc hr1 ⊢
 rw [hlk] at hr2
 have h3 : decide ((200 : Int) < (n : Int)) = false := decide_eq_false (by omega)
 have h4 : ((n : Int) == 0) = false := by simp; omega
 have hn1 : ¬ (n : Int) + 1 = 0 := by omega
 obtain ⟨b, off, rfl, hbw, _⟩ := hz (by rw [hn]; exact hl0)
 have HZ := Lib.hid hz
 have HZ2 := Lib.hid (hz.take k)
 have hB := Below.refl w.heap.size w
 obtain ⟨s0, hs0⟩ : ∃ s0, w.heap.size = s0 := ⟨_, rfl⟩
 have HS0 := Lib.hid hs0
 rw [hs0] at hB
 have hkz : (k : Int) ≤ (c : Int) := by omega
 have hkz2 : (k : Int) ≤ (n : Int) := by omega
 by_cases hE : runE l num den = 0
 ·obtain ⟨t1, t2⟩ := hrt hE
  rw [hE] at hr1
  rw [t1, t2] at hr2
  have hLL := hLl hE
  have hM := fun A B c d w h1 h2 => rsame_any A B c d ((runL l num den).take k) ((runL l num den).take k) w h1 h2 (by rw [List.length_take]; omega)
  have e3 : decide ((runL l num den).take k = (runL l num den).take k) = true := by simp
  have hlt : ((runL l num den).take k).length = k := by rw [List.length_take, hLL]; omega
  rw [e3, hlt] at hM
  have HLT := Lib.hid hlt
  have HLL := Lib.hid hLL
  generalize runL l num den = L at *
  have HR1 := Lib.hid hr1
  have HR2 := Lib.hid hr2
  have HM := Lib.hid hM
  have hnn : ((n : Int) == (n : Int)) = true := by simp
  clear hr1 hr2 hM hz hn hrt hLl hE t1 t2 e3 hlt hLL hlk hs0
  go_enter Try.func5, Try.ntmps5
  go_upto_region 7 with (first
   | (go_at_call 11; refine (alAwake_any _).mono ?_; rintro e w1 ⟨rfl, hb⟩; have hI := Lib.hid ((two_box w num den 24).more hb); have hB9 := ((Below.refl w.heap.size w).alloc (Nat.le_refl _) (Obj.cells #[.int .i64 num, .int .i64 den] 24)).trans (hb.mono (by simp)); have c0 := hI.out.cell 0 (by simp); have c1 := hI.out.cell 1 (by simp); clear hb)
   | (go_at_call 12; refine (HR1.out _ (HZ.out.up hB9)).mono ?_; rintro e w2 ⟨v1, rfl, h1, hb⟩; replace h1 := Lib.hid h1; replace hI := Lib.hid (hI.out.more hb); replace c0 := hI.out.cell 0 (by simp); replace c1 := hI.out.cell 1 (by simp); replace hB9 := hB9.trans (hb.mono hB9.size); clear hb))
  obtain ⟨A1, d1, ev1, hcc, hI1⟩ := h1.out
  rw [HLL.out] at ev1 hcc
  subst ev1
  obtain ⟨b1, off1, rfl, _, _⟩ := hI1.at (by rw [HLL.out]; omega)
  have HI1 := Lib.hid hI1
  clear h1 hI1
  refine AS.region_facts (fiFL b off n c k w.heap.size num den 0 (L.take k)) (FNo w2) [[], [], [38, 39], [], [41], [], [43], [40, 42, 44], [45], [37], [37], [46], [47]] [] [[]] [0, 0, 0, 0, 0, 0, 0, 0, 0, 0, 0, 0, 0] [] (fun u => by simp only [fiFL, AS.temps, List.map_cons, List.map_nil, fillL, List.setIfInBounds_toArray, List.set_cons_zero, List.set_cons_succ]; rfl) (by kernel_rfl) (by kernel_rfl) (FNo.st w2) (dc_drew (Below.refl _ _)) ?_ ?_
  ·refine AS.sc rfl rfl rfl ?_ ?_
   ·intro k_ u w_ hk_ hJ hF K hK
    clear hF
    go_simp
    exact hK.out _ _ (Below.refl _ _) (rfl) trivial
   refine AS.sc rfl rfl rfl ?_ ?_
   ·intro k_ u w_ hk_ hJ hF K hK
    clear hF
    go_simp
    exact hK.out _ _ (Below.refl _ _) (rfl) trivial
   refine AS.sc rfl rfl rfl ?_ ?_
   ·intro k_ u w_ hk_ hJ hF K hK
    have h38 : u 38 = .slice (some ⟨b, off, none⟩) (n : Nat) c := AS.facts_get hF 38 (by simp)
    have h39 : u 39 = .int .i64 (k : Int) := AS.facts_get hF 39 (by simp)
    clear hF
    simp only [h38, h39] at hK ⊢
    clear h38 h39
    go_simp
    exact hK.out _ _ (Below.refl _ _) (rfl) trivial
   refine AS.sc rfl rfl rfl ?_ ?_
   ·intro k_ u w_ hk_ hJ hF K hK
    clear hF
    go_simp
    exact hK.out _ _ (Below.refl _ _) (rfl) trivial
   refine AS.sc rfl rfl rfl ?_ ?_
   ·intro k_ u w_ hk_ hJ hF K hK
    have h41 : u 41 = .pointer (some ⟨w.heap.size, 0, none⟩) := AS.facts_get hF 41 (by simp)
    have hJ0 : Below w2.heap.size w2 w_ := hJ
    clear hF
    simp only [h41] at hK ⊢
    clear h41
    have c0 := (hI.out.more hJ0).cell 0 (by simp)
    go_simp
    exact hK.out _ _ (Below.refl _ _) (rfl) trivial
   refine AS.sc rfl rfl rfl ?_ ?_
   ·intro k_ u w_ hk_ hJ hF K hK
    clear hF
    go_simp
    exact hK.out _ _ (Below.refl _ _) (rfl) trivial
   refine AS.sc rfl rfl rfl ?_ ?_
   ·intro k_ u w_ hk_ hJ hF K hK
    have h43 : u 43 = .pointer (some ⟨w.heap.size, 1, none⟩) := AS.facts_get hF 43 (by simp)
    have hJ0 : Below w2.heap.size w2 w_ := hJ
    clear hF
    simp only [h43] at hK ⊢
    clear h43
    have c1 := (hI.out.more hJ0).cell 1 (by simp)
    go_simp
    exact hK.out _ _ (Below.refl _ _) (rfl) trivial
   refine AS.sc rfl rfl rfl ?_ ?_
   ·intro k_ u w_ hk_ hJ hF K hK
    have h40 : u 40 = .slice (some ⟨b, off, none⟩) (k : Nat) c := AS.facts_get hF 40 (by simp)
    have h42 : u 42 = .int .i64 num := AS.facts_get hF 42 (by simp)
    have h44 : u 44 = .int .i64 den := AS.facts_get hF 44 (by simp)
    have hJ0 : Below w2.heap.size w2 w_ := hJ
    clear hF
    simp only [h40, h42, h44] at hK ⊢
    clear h40 h42 h44
    have hz2 := HZ2.out.up (hB9.trans (hJ0.mono hB9.size))
    go_simp
    refine (HR2.out _ hz2).mono ?_
    rintro e w3 ⟨s, rfl, h9, hb⟩
    exact hK.out _ _ hb ⟨s, rfl, h9⟩ trivial
   refine AS.sc rfl rfl rfl ?_ ?_
   ·intro k_ u w_ hk_ hJ hF K hK
    have h45 : ∃ s, u 45 = .tuple #[s, .int .i64 0] ∧ SlC w_ s (L.take k) := AS.facts_get hF 45 (by simp)
    clear hF
    obtain ⟨s, h45, h9⟩ := h45
    simp only [h45] at hK ⊢
    clear h45
    go_simp
    exact hK.out _ _ (Below.refl _ _) (⟨s, rfl, h9⟩) trivial
   refine AS.sc rfl rfl rfl ?_ ?_
   ·intro k_ u w_ hk_ hJ hF K hK
    have h37 : ∃ s, u 37 = .tuple #[s, .int .i64 0] ∧ SlC w_ s (L.take k) := AS.facts_get hF 37 (by simp)
    clear hF
    obtain ⟨s, h37, h9⟩ := h37
    simp only [h37] at hK ⊢
    clear h37
    go_simp
    exact hK.out _ _ (Below.refl _ _) (h9) trivial
   refine AS.sc rfl rfl rfl ?_ ?_
   ·intro k_ u w_ hk_ hJ hF K hK
    have h37 : ∃ s, u 37 = .tuple #[s, .int .i64 0] ∧ SlC w_ s (L.take k) := AS.facts_get hF 37 (by simp)
    clear hF
    obtain ⟨s, h37, h9⟩ := h37
    simp only [h37] at hK ⊢
    clear h37
    go_simp
    exact hK.out _ _ (Below.refl _ _) (rfl) trivial
   refine AS.sc rfl rfl rfl ?_ ?_
   ·intro k_ u w_ hk_ hJ hF K hK
    have h46 : SlC w_ (u 46) (L.take k) := AS.facts_get hF 46 (by simp)
    clear hF
    obtain ⟨A5, c5, e5, hc5, h5⟩ := h46
    obtain ⟨m, hm⟩ : ∃ m, (L.take k).length = m := ⟨_, rfl⟩
    rw [hm] at e5 hc5
    have hm := Lib.hid hm
    simp only [e5] at hK ⊢
    go_simp
    exact hK.out _ _ (Below.refl _ _) (⟨_, _, congrArg (fun x => Value.slice A5 x c5) hm.out.symm, by rw [hm.out]; exact hc5, h5⟩) trivial
   refine AS.sc rfl rfl rfl ?_ ?_
   ·intro k_ u w_ hk_ hJ hF K hK
    have h47 : u 47 = .int .i64 0 := AS.facts_get hF 47 (by simp)
    clear hF
    simp only [h47] at hK ⊢
    clear h47
    go_simp
    exact hK.out _ _ (Below.refl _ _) (rfl) trivial
   exact AS.StepsOk.nil
  ·intro u W9 hJ9 hF
   have h10 : SlC W9 (u 10) (L.take k) := AS.facts_get hF 10 (by simp [fiFL, AS.temps])
   have h11 : u 11 = .int .i64 0 := AS.facts_get hF 11 (by simp [fiFL, AS.temps])
   have hB8 : Below w2.heap.size w2 W9 := hJ9
   clear hF hJ9
   obtain ⟨A2, d2, e2, hc2, hI2⟩ := h10
   rw [HLT.out] at e2 hc2
   have HI2 := Lib.hid hI2
   have HI1b := Lib.hid ((HI1.out.up hB8).take k)
   have hB7 := hB9.trans (hB8.mono hB9.size)
   have hkd : (k : Int) ≤ (d1 : Int) := by omega
   simp only [e2, h11]
   clear e2 h11 hI2 HI1 hB8 hB9 hI c0 c1
   go_wp2_with (go_at_call 14; refine (HM.out _ _ _ _ _ HI1b.out HI2.out).mono ?_; rintro e w3 ⟨rfl, hb⟩; replace hB7 := below_more hB7 hb; clear hb)
   go_ret
   exact ⟨rfl, hB7⟩
 ·have h5 : (runE l num den == 0) = false := by simp [hE]
  generalize runE l num den = E1 at *
  generalize runL l num den = L1 at *
  generalize runE (l.take k) num den = E2 at *
  generalize runL (l.take k) num den = L2 at *
  have HR1 := Lib.hid hr1
  have HR2 := Lib.hid hr2
  clear hr1 hr2 hz hn hrt hLl hlk hs0
  go_enter Try.func5, Try.ntmps5
  go_upto_region 7 with (first
   | (go_at_call 11; refine (alAwake_any _).mono ?_; rintro e w1 ⟨rfl, hb⟩; have hI := Lib.hid ((two_box w num den 24).more hb); have hB9 := ((Below.refl w.heap.size w).alloc (Nat.le_refl _) (Obj.cells #[.int .i64 num, .int .i64 den] 24)).trans (hb.mono (by simp)); have c0 := hI.out.cell 0 (by simp); have c1 := hI.out.cell 1 (by simp); clear hb)
   | (go_at_call 12; refine (HR1.out _ (HZ.out.up hB9)).mono ?_; rintro e w2 ⟨v1, rfl, h1, hb⟩; clear h1; replace hI := Lib.hid (hI.out.more hb); replace c0 := hI.out.cell 0 (by simp); replace c1 := hI.out.cell 1 (by simp); replace hB9 := hB9.trans (hb.mono hB9.size); clear hb))
  refine AS.region_facts (fiFL b off n c k w.heap.size num den E2 L2) (FNo w2) [[], [], [38, 39], [], [41], [], [43], [40, 42, 44], [45], [37], [37], [46], [47]] [] [[]] [0, 0, 0, 0, 0, 0, 0, 0, 0, 0, 0, 0, 0] [] (fun u => by simp only [fiFL, AS.temps, List.map_cons, List.map_nil, fillL, List.setIfInBounds_toArray, List.set_cons_zero, List.set_cons_succ]; rfl) (by kernel_rfl) (by kernel_rfl) (FNo.st w2) (dc_drew (Below.refl _ _)) ?_ ?_
  ·refine AS.sc rfl rfl rfl ?_ ?_
   ·intro k_ u w_ hk_ hJ hF K hK
    clear hF
    go_simp
    exact hK.out _ _ (Below.refl _ _) (rfl) trivial
   refine AS.sc rfl rfl rfl ?_ ?_
   ·intro k_ u w_ hk_ hJ hF K hK
    clear hF
    go_simp
    exact hK.out _ _ (Below.refl _ _) (rfl) trivial
   refine AS.sc rfl rfl rfl ?_ ?_
   ·intro k_ u w_ hk_ hJ hF K hK
    have h38 : u 38 = .slice (some ⟨b, off, none⟩) (n : Nat) c := AS.facts_get hF 38 (by simp)
    have h39 : u 39 = .int .i64 (k : Int) := AS.facts_get hF 39 (by simp)
    clear hF
    simp only [h38, h39] at hK ⊢
    clear h38 h39
    go_simp
    exact hK.out _ _ (Below.refl _ _) (rfl) trivial
   refine AS.sc rfl rfl rfl ?_ ?_
   ·intro k_ u w_ hk_ hJ hF K hK
    clear hF
    go_simp
    exact hK.out _ _ (Below.refl _ _) (rfl) trivial
   refine AS.sc rfl rfl rfl ?_ ?_
   ·intro k_ u w_ hk_ hJ hF K hK
    have h41 : u 41 = .pointer (some ⟨w.heap.size, 0, none⟩) := AS.facts_get hF 41 (by simp)
    have hJ0 : Below w2.heap.size w2 w_ := hJ
    clear hF
    simp only [h41] at hK ⊢
    clear h41
    have c0 := (hI.out.more hJ0).cell 0 (by simp)
    go_simp
    exact hK.out _ _ (Below.refl _ _) (rfl) trivial
   refine AS.sc rfl rfl rfl ?_ ?_
   ·intro k_ u w_ hk_ hJ hF K hK
    clear hF
    go_simp
    exact hK.out _ _ (Below.refl _ _) (rfl) trivial
   refine AS.sc rfl rfl rfl ?_ ?_
   ·intro k_ u w_ hk_ hJ hF K hK
    have h43 : u 43 = .pointer (some ⟨w.heap.size, 1, none⟩) := AS.facts_get hF 43 (by simp)
    have hJ0 : Below w2.heap.size w2 w_ := hJ
    clear hF
    simp only [h43] at hK ⊢
    clear h43
    have c1 := (hI.out.more hJ0).cell 1 (by simp)
    go_simp
    exact hK.out _ _ (Below.refl _ _) (rfl) trivial
   refine AS.sc rfl rfl rfl ?_ ?_
   ·intro k_ u w_ hk_ hJ hF K hK
    have h40 : u 40 = .slice (some ⟨b, off, none⟩) (k : Nat) c := AS.facts_get hF 40 (by simp)
    have h42 : u 42 = .int .i64 num := AS.facts_get hF 42 (by simp)
    have h44 : u 44 = .int .i64 den := AS.facts_get hF 44 (by simp)
    have hJ0 : Below w2.heap.size w2 w_ := hJ
    clear hF
    simp only [h40, h42, h44] at hK ⊢
    clear h40 h42 h44
    have hz2 := HZ2.out.up (hB9.trans (hJ0.mono hB9.size))
    go_simp
    refine (HR2.out _ hz2).mono ?_
    rintro e w3 ⟨s, rfl, h9, hb⟩
    exact hK.out _ _ hb ⟨s, rfl, h9⟩ trivial
   refine AS.sc rfl rfl rfl ?_ ?_
   ·intro k_ u w_ hk_ hJ hF K hK
    have h45 : ∃ s, u 45 = .tuple #[s, .int .i64 E2] ∧ SlC w_ s L2 := AS.facts_get hF 45 (by simp)
    clear hF
    obtain ⟨s, h45, h9⟩ := h45
    simp only [h45] at hK ⊢
    clear h45
    go_simp
    exact hK.out _ _ (Below.refl _ _) (⟨s, rfl, h9⟩) trivial
   refine AS.sc rfl rfl rfl ?_ ?_
   ·intro k_ u w_ hk_ hJ hF K hK
    have h37 : ∃ s, u 37 = .tuple #[s, .int .i64 E2] ∧ SlC w_ s L2 := AS.facts_get hF 37 (by simp)
    clear hF
    obtain ⟨s, h37, h9⟩ := h37
    simp only [h37] at hK ⊢
    clear h37
    go_simp
    exact hK.out _ _ (Below.refl _ _) (h9) trivial
   refine AS.sc rfl rfl rfl ?_ ?_
   ·intro k_ u w_ hk_ hJ hF K hK
    have h37 : ∃ s, u 37 = .tuple #[s, .int .i64 E2] ∧ SlC w_ s L2 := AS.facts_get hF 37 (by simp)
    clear hF
    obtain ⟨s, h37, h9⟩ := h37
    simp only [h37] at hK ⊢
    clear h37
    go_simp
    exact hK.out _ _ (Below.refl _ _) (rfl) trivial
   refine AS.sc rfl rfl rfl ?_ ?_
   ·intro k_ u w_ hk_ hJ hF K hK
    have h46 : SlC w_ (u 46) L2 := AS.facts_get hF 46 (by simp)
    clear hF
    obtain ⟨A5, c5, e5, hc5, h5⟩ := h46
    obtain ⟨m, hm⟩ : ∃ m, L2.length = m := ⟨_, rfl⟩
    rw [hm] at e5 hc5
    have hm := Lib.hid hm
    simp only [e5] at hK ⊢
    go_simp
    exact hK.out _ _ (Below.refl _ _) (⟨_, _, congrArg (fun x => Value.slice A5 x c5) hm.out.symm, by rw [hm.out]; exact hc5, h5⟩) trivial
   refine AS.sc rfl rfl rfl ?_ ?_
   ·intro k_ u w_ hk_ hJ hF K hK
    have h47 : u 47 = .int .i64 E2 := AS.facts_get hF 47 (by simp)
    clear hF
    simp only [h47] at hK ⊢
    clear h47
    go_simp
    exact hK.out _ _ (Below.refl _ _) (rfl) trivial
   exact AS.StepsOk.nil
  ·intro u W9 hJ9 hF
   have h10 : SlC W9 (u 10) L2 := AS.facts_get hF 10 (by simp [fiFL, AS.temps])
   have h11 : u 11 = .int .i64 E2 := AS.facts_get hF 11 (by simp [fiFL, AS.temps])
   have hB8 : Below w2.heap.size w2 W9 := hJ9
   clear hF hJ9
   have hB7 := hB9.trans (hB8.mono hB9.size)
   clear h10 h11 hB8 hB9 hI c0 c1
   go_wp2_with fail
   go_ret
   exact ⟨rfl, hB7⟩
set_option maxRecDepth 20000 in
set_option maxHeartbeats 1600000 in
theorem alfirst_long (A : Option Addr) (len c : Nat) (num den at' : Int) (w : World) (h : len = 0 ∨ 200 < len) (hl2 : len ≤ 9223372036854775807) :
  Calls Try.prog 5 #[.slice A len c, .agg #[.int .i64 num, .int .i64 den], .int .u8 at'] w fun e w' => e = .returned (.bool true) ∧ Below w.heap.size w w' := by
 by_cases h0 : 200 < len
 ·have h1 : (200 : Int) < (len : Int) := by omega
  clear h
  go_enter Try.func5, Try.ntmps5
  go_wp2_with (go_at_call 11; refine (alAwake_any _).mono ?_; rintro e w1 ⟨rfl, hb⟩; have hB9 := ((Below.refl w.heap.size w).alloc (Nat.le_refl _) (Obj.cells #[.int .i64 num, .int .i64 den] 24)).trans (hb.mono (by simp)); clear hb)
  go_ret
  exact ⟨rfl, hB9⟩
 ·obtain rfl : len = 0 := by omega
  clear h h0
  go_enter Try.func5, Try.ntmps5
  go_wp2_with (go_at_call 11; refine (alAwake_any _).mono ?_; rintro e w1 ⟨rfl, hb⟩; have hB9 := ((Below.refl w.heap.size w).alloc (Nat.le_refl _) (Obj.cells #[.int .i64 num, .int .i64 den] 24)).trans (hb.mono (by simp)); clear hb)
  go_ret
  exact ⟨rfl, hB9⟩
theorem law_alfirst (A : Option Addr) (len c : Nat) (l : List Int) (num den at' : Int) (w : World) (hat : 0 ≤ at' ∧ at' ≤ 255) (hlen : l.length = len) (hmax : len ≤ 9223372036854775807) (hc : len ≤ c) (hz : IntsAt .i64 w A l) :
  Calls Try.prog 5 #[.slice A len c, .agg #[.int .i64 num, .int .i64 den], .int .u8 at'] w fun e w' => e = .returned (.bool true) ∧ Below w.heap.size w w' := by
 by_cases h : len = 0 ∨ 200 < len
 ·exact alfirst_long A len c num den at' w h hmax
 ·subst hlen
  exact alfirst_short A c l num den at' w hz (by omega) (by omega) hc hat
open Go.ChangeShapes Go.WideShapes Go.ChangeAt Go.WideMaps Go.WideElems Go.RowKit Go.Joins Go.Deep
theorem open_islice2 {H : Type} {enc : TypeId × Value → H} {P : Program} {W : World} {b0 : Nat} {T E : TypeId} {k : IntKind} {v : Value} {d : DataW H} {p : List MemPlace} (hT : P.underlying T = some (.slice E)) (hE : P.underlying E = some (.int k)) (hc : P.cellsOf E = 1)
  (hval : Value.okWide P W .any b0 T v) (h : DataW.Trod enc P W 0 (fun _ => true) true T v d p) :
  ∃ A len cap zs, v = .slice A len cap ∧ zs.length = len ∧ len ≤ 9223372036854775807 ∧ IntsAt k W A zs ∧ (∀ x ∈ zs, (Lit.int k x).wf = true) ∧ len ≤ cap ∧ (len = 0 ∨ ∃ a, A = some a) := by
 obtain ⟨a0, len, cap, rfl⟩ := okWide_slice hT hval
 obtain ⟨fuel, hf⟩ := h
 rcases open_ints hT hE hc hf with ⟨hcs, hx⟩ | ⟨a, len', cap', zs, hcs, _, hl, hm, hz, hx, hcell, hwz⟩
 ·simp [Value.cells] at hcs
  obtain ⟨rfl, rfl, rfl⟩ := hcs
  exact ⟨none, 0, 0, [], rfl, rfl, by omega, IntsAt.nil, by simp, by omega, .inl rfl⟩
 ·simp [Value.cells] at hcs
  obtain ⟨rfl, rfl, rfl⟩ := hcs
  simp only [if_true] at hz
  unfold maxLen at hm
  have hle : (zs.take len).length = len := by rw [List.length_take, hz]; omega
  refine ⟨_, len, cap, zs.take len, rfl, hle, by omega, fun h0 => ?_, fun x hx => hwz x (List.mem_of_mem_take hx), by omega, .inr ⟨_, rfl⟩⟩
  have hl0 : 0 < len := by omega
  obtain ⟨b, off, spot⟩ := a
  have hspot : spot = none := by simpa [Addr.add] using World.cell?_spot (hcell 0 (by omega))
  subst hspot
  have hlt : b < W.heap.size := by
   have h9 := hcell 0 (by omega)
   rcases Nat.lt_or_ge b W.heap.size with hlt | hge
   ·exact hlt
   ·unfold World.cell? at h9
    rw [show (Addr.add ⟨b, off, none⟩ 0).block = b from by rw [block_add], Array.getElem?_eq_none hge] at h9
    simp at h9
  refine ⟨b, off, rfl, hlt, fun i hi => ?_⟩
  rw [hle] at hi
  have h1 := hcell i (by omega)
  rw [Go.WideShapes.add_plain] at h1
  rw [h1, List.getD_eq_getElem?_getD, List.getD_eq_getElem?_getD, List.getElem?_take, if_pos hi]
end Go.Proofs.Ytocojbkhdijjeaa
