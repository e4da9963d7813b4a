/- Contracts of the functions that the statements reach, part 2: what was proved of each, callees first. -/
import Derived.Carry
import Derived.WalkSpells
import Derived.Lib.SliceRun
import Derived.ArgAppend
import Derived.Shelf.SlIter.Nil
import Derived.Shelf.SlSortCmp.NoneTotal
import Derived.Ground.SlsfProg
import Derived.Shelf.SlGeneric
import Derived.Test.YtihgnnocagfdeaaProg
import Derived.RangeFuncBound
import Derived.Sort.OwnSorted
import Derived.Lib.AppendIntMem
import Derived.Deep.RegionHeldLaw
import Derived.Test.YtihgnnocagfdeaaRP1
namespace Go.Proofs.Ytihgnnocagfdeaa
open Go.RowKit Go.Sort
def rtsL (bb off n cp b2 o2 cq k : Nat) (r q : Rt) (B : Bool) : List (Nat × AK.Fact (Below0)) := [(17, AK.Fact.is (.slice (some ⟨bb, off, none⟩) n cp)), (18, AK.Fact.is (.int .i64 (k : Int))), (19, AK.Fact.is (.pointer (some ⟨bb, off + k * 4, none⟩))), (20, AK.Fact.is (rtVl r)), (21, AK.Fact.is (.slice (some ⟨b2, o2, none⟩) n cq)), (22, AK.Fact.is (.int .i64 (k : Int))), (23, AK.Fact.is (.pointer (some ⟨b2, o2 + k * 4, none⟩))), (24, AK.Fact.is (rtVl q)), (25, AK.Fact.is (.bool (!B)))]
set_option maxRecDepth 100000 in
set_option maxHeartbeats 3200000 in
theorem rsame16_any (A B : Option Addr) (cp cq : Nat) (L M : List Rt) (w : World) (hz : RowAt lyT w A L) (hy : RowAt lyT w B M) (hl : L.length ≤ 100000) (_hm : M.length ≤ 100000) : Calls Try.prog 25 #[.slice A L.length cp, .slice B M.length cq] w fun e w' => e = .returned (.bool (decide (L = M))) ∧ Below w.heap.size w w' := by
 by_cases hlm : L.length = M.length
 rotate_left
 ·have hd : decide (L = M) = false := decide_eq_false fun e => hlm (by rw [e])
  have hne : ((L.length : Int) != (M.length : Int)) = true := by simp; omega
  rw [hd]
  clear hlm hd hz hy
  go_enter Try.func25, Try.ntmps25
  go_wp2_with fail
  go_ret
  exact ⟨rfl, Below.refl _ _⟩
 rw [← hlm] at _hm ⊢
 have HZ := Lib.hid hz
 have HY := Lib.hid hy
 obtain ⟨n, hn⟩ : ∃ n, L.length = n := ⟨_, rfl⟩
 have HN := Lib.hid hn
 have HM : Hid (M.length = n) := Lib.hid (by rw [← hlm, hn])
 rw [hn] at hl ⊢
 clear hz hy hn hlm _hm
 have HBW : Hid (∀ W, Below w.heap.size w W → Below w.heap.size w W) := Lib.hid (fun _ h => h)
 go_enter Try.func25, Try.ntmps25
 go_wp2_with fail
 go_loopg [5] n (fun kx s5 wr => ∃ k : Nat, s5 = .int .i64 (k : Int) ∧ k ≤ n ∧ n - k ≤ kx ∧ Hid (Below w.heap.size w wr) ∧ Hid (∀ j, j < k → L[j]? = M[j]?))
 case atStart => exact ⟨0, rfl, by omega, by omega, Lib.hid (Below.refl _ _), Lib.hid (fun j h => absurd h (by omega))⟩
 case round =>
  obtain ⟨k, rfl, hk, hkx, HB, HD⟩ := hrel
  by_cases hlt : k < n
  ·have hltz : (k : Int) < (n : Int) := by omega
   obtain ⟨r, hr⟩ : ∃ r, L[k]? = some r := ⟨_, List.getElem?_eq_getElem (by rw [HN.out]; exact hlt)⟩
   obtain ⟨q, hq⟩ : ∃ q, M[k]? = some q := ⟨_, List.getElem?_eq_getElem (by rw [HM.out]; exact hlt)⟩
   obtain ⟨bb, off, hA, -, hld⟩ := rt_get HZ.out hr
   obtain ⟨b2, o2, hA2, -, hld2⟩ := rt_get HY.out hq
   subst hA hA2
   have HLX : Hid (∀ W, Below wr.heap.size wr W → (Instr.loadAt 24 (.pointer (some ⟨bb, off + k * 4, none⟩))).run Try.prog W = .ok (rtVl r) W) := Lib.hid (fun W h => hld W (HB.out.trans (h.mono HB.out.size)))
   have HLY : Hid (∀ W, Below wr.heap.size wr W → (Instr.loadAt 24 (.pointer (some ⟨b2, o2 + k * 4, none⟩))).run Try.prog W = .ok (rtVl q) W) := Lib.hid (fun W h => hld2 W (HB.out.trans (h.mono HB.out.size)))
   obtain ⟨B, hB⟩ : ∃ B, decide (r = q) = B := ⟨_, rfl⟩
   have HBE := Lib.hid hB
   have HLZ := Lib.hid hltz
   have HRQ : Hid (L[k]? = some r ∧ M[k]? = some q) := Lib.hid ⟨hr, hq⟩
   clear hr hq hld hld2 hB
   go_upto_region 6 with fail
   refine AK.region_facts (Rp := Below0) (Kp := Below0) (rtsL bb off n cp b2 o2 cq k r q B) (fun _ _ W => Below wr.heap.size wr W) [[], [], [17, 18], [19], [], [], [21, 22], [23], [20, 24]] [] [[]] [0, 0, 0, 0, 0, 0, 0, 0, 0] [0, 0, 0, 0, 0, 0, 0, 0, 0] [] (fun u => by simp only [rtsL, AK.temps, List.map_cons, List.map_nil, fillL, List.setIfInBounds_toArray, List.set_cons_zero, List.set_cons_succ]; rfl) (by kernel_rfl) (by kernel_rfl) (fun _ _ h => h.size) (fun _ _ h => h) (fun _ _ _ _ hb h => h.trans (hb.mono h.size)) (dc_drew (Below.refl _ _)) ?_ ?_
   ·refine AK.sc (lim := 0) (lo := 0) rfl rfl rfl rfl ?_ ?_
    ·intro k_ u w_ hk_ hl_ hJ hF K hK
     clear hF
     go_simp
     exact hK.out _ _ (Below.refl _ _) (rfl) trivial
    refine AK.sc (lim := 0) (lo := 0) rfl rfl rfl rfl ?_ ?_
    ·intro k_ u w_ hk_ hl_ hJ hF K hK
     clear hF
     go_simp
     exact hK.out _ _ (Below.refl _ _) (rfl) trivial
    refine AK.sc (lim := 0) (lo := 0) rfl rfl rfl rfl ?_ ?_
    ·intro k_ u w_ hk_ hl_ hJ hF K hK
     have h17 : u 17 = .slice (some ⟨bb, off, none⟩) n cp := AK.facts_get hF 17 (by simp)
     have h18 : u 18 = .int .i64 (k : Int) := AK.facts_get hF 18 (by simp)
     clear hF
     simp only [h17, h18] at hK ⊢
     clear h17 h18
     have hl_ := HLZ.out
     go_simp
     exact hK.out _ _ (Below.refl _ _) (rfl) trivial
    refine AK.sc (lim := 0) (lo := 0) rfl rfl rfl rfl ?_ ?_
    ·intro k_ u w_ hk_ hl_ hJ hF K hK
     have h19 : u 19 = .pointer (some ⟨bb, off + k * 4, none⟩) := AK.facts_get hF 19 (by simp)
     clear hF
     simp only [h19] at hK ⊢
     clear h19
     refine wp_load_is 24 _ rfl _ rfl (rtVl r) (HLX.out _ hJ) ?_
     exact hK.out _ _ (Below.refl _ _) (rfl) trivial
    refine AK.sc (lim := 0) (lo := 0) rfl rfl rfl rfl ?_ ?_
    ·intro k_ u w_ hk_ hl_ hJ hF K hK
     clear hF
     go_simp
     exact hK.out _ _ (Below.refl _ _) (rfl) trivial
    refine AK.sc (lim := 0) (lo := 0) rfl rfl rfl rfl ?_ ?_
    ·intro k_ u w_ hk_ hl_ hJ hF K hK
     clear hF
     go_simp
     exact hK.out _ _ (Below.refl _ _) (rfl) trivial
    refine AK.sc (lim := 0) (lo := 0) rfl rfl rfl rfl ?_ ?_
    ·intro k_ u w_ hk_ hl_ hJ hF K hK
     have h21 : u 21 = .slice (some ⟨b2, o2, none⟩) n cq := AK.facts_get hF 21 (by simp)
     have h22 : u 22 = .int .i64 (k : Int) := AK.facts_get hF 22 (by simp)
     clear hF
     simp only [h21, h22] at hK ⊢
     clear h21 h22
     have hl_ := HLZ.out
     go_simp
     exact hK.out _ _ (Below.refl _ _) (rfl) trivial
    refine AK.sc (lim := 0) (lo := 0) rfl rfl rfl rfl ?_ ?_
    ·intro k_ u w_ hk_ hl_ hJ hF K hK
     have h23 : u 23 = .pointer (some ⟨b2, o2 + k * 4, none⟩) := AK.facts_get hF 23 (by simp)
     clear hF
     simp only [h23] at hK ⊢
     clear h23
     refine wp_load_is 24 _ rfl _ rfl (rtVl q) (HLY.out _ hJ) ?_
     exact hK.out _ _ (Below.refl _ _) (rfl) trivial
    refine AK.sc (lim := 0) (lo := 0) rfl rfl rfl rfl ?_ ?_
    ·intro k_ u w_ hk_ hl_ hJ hF K hK
     have h20 : u 20 = rtVl r := AK.facts_get hF 20 (by simp)
     have h24 : u 24 = rtVl q := AK.facts_get hF 24 (by simp)
     clear hF
     simp only [h20, h24] at hK ⊢
     clear h20 h24
     refine wp_bin_is _ 24 _ _ _ rfl (rtVl r) (rtVl q) (.bool (!B)) rfl rfl (rate_guard _ _ _ _ _) (by rw [rate_neq, HBE.out]) ?_
     exact hK.out _ _ (Below.refl _ _) (rfl) trivial
    exact AK.StepsOk.nil
   ·intro u W9 hJ9 hF
    have h25 : u 25 = .bool (!B) := AK.facts_get hF 25 (by simp [rtsL, AK.temps])
    clear hF
    simp only [h25]
    have HJ := Lib.hid hJ9
    clear hJ9
    have HB9 : Hid (Below w.heap.size w W9) := Lib.hid (HB.out.trans (HJ.out.mono HB.out.size))
    cases B
    ·have hF : Hid (decide (L = M) = false) := Lib.hid (decide_eq_false fun e => by
      have h1 := HRQ.out
      rw [← e, h1.1] at h1
      exact of_decide_eq_false HBE.out (by simpa using h1.2))
     go_wp2_with fail
     go_ret
     exact ⟨by rw [hF.out]; rfl, HB9.out⟩
    ·have HD2 : Hid (∀ j, j < k + 1 → L[j]? = M[j]?) := Lib.hid fun j hj => by
      rcases Nat.lt_or_ge j k with h4 | h4
      ·exact HD.out j h4
      ·obtain rfl : j = k := by omega
       rw [HRQ.out.1, HRQ.out.2, of_decide_eq_true HBE.out]
     go_wp2_with fail
     go_roundg (n - (k + 1))
     case measure => omega
     case rel => exact ⟨k + 1, by go_num, by omega, by omega, HB9, HD2⟩
  ·have hltz : ¬ (k : Int) < (n : Int) := by omega
   have hF : Hid (decide (L = M) = true) := Lib.hid (decide_eq_true (List.ext_getElem? fun j => by
    rcases Nat.lt_or_ge j k with h4 | h4
    ·exact HD.out j h4
    ·rw [List.getElem?_eq_none (by have := HN.out; omega), List.getElem?_eq_none (by have := HM.out; omega)]))
   go_wp2_with fail
   go_ret
   exact ⟨by rw [hF.out]; rfl, HB.out⟩
def rtvL (bb off n cp i j : Nat) (r q : Rt) (B : Bool) : List (Nat × AK.Fact (Below0)) := [(25, AK.Fact.is (.slice (some ⟨bb, off, none⟩) n cp)), (26, AK.Fact.is (.int .i64 (j : Int))), (27, AK.Fact.is (.pointer (some ⟨bb, off + j * 4, none⟩))), (28, AK.Fact.is (rtVl q)), (29, AK.Fact.is (.slice (some ⟨bb, off, none⟩) n cp)), (30, AK.Fact.is (.int .i64 (i : Int))), (31, AK.Fact.is (.pointer (some ⟨bb, off + i * 4, none⟩))), (32, AK.Fact.is (rtVl r)), (33, AK.Fact.is (.bool B))]
set_option maxRecDepth 100000 in
set_option maxHeartbeats 3200000 in
theorem rvalid16_any (g : ByteArray) (A : Option Addr) (cp : Nat) (L : List Rt) (w : World) (hz : RowAt lyT w A L) (hl : L.length ≤ 100000) (hg : g.size ≤ maxLen) (ht : ∀ r ∈ L, okT r) : Calls Try.prog 18 #[.string g, .slice A L.length cp] w fun e w' => e = .returned (.bool (rtV g L)) ∧ Below w.heap.size w w' := by
 have HZ := Lib.hid hz
 obtain ⟨n, hn⟩ : ∃ n, L.length = n := ⟨_, rfl⟩
 have HN := Lib.hid hn
 have HT := Lib.hid ht
 have HC := Lib.hid (fun w => rtcurR_any g w hg)
 rw [hn] at hl ⊢
 have HNO : Hid (∀ i, i < n → ¬ rtI g L i → rtV g L = false) := Lib.hid fun i hi h => by
  cases hv : rtV g L
  ·rfl
  ·exact absurd ((rtV_iff.1 hv).2.2 i (by rw [HN.out]; exact hi)) h
 have HYES : Hid ((∀ i, i < n → rtI g L i) → rtV g L = (curB g && decide (n ≤ 1000))) := Lib.hid fun h => by
  rw [Bool.eq_iff_iff, rtV_iff]
  simp only [Bool.and_eq_true, decide_eq_true_eq]
  rw [HN.out]
  exact ⟨fun h1 => ⟨h1.1, h1.2.1⟩, fun h1 => ⟨h1.1, h1.2, h⟩⟩
 clear hz hn hg ht
 go_enter Try.func18, Try.ntmps18
 go_wp2_with fail
 go_loopg [5] n (fun kx s5 wr => ∃ i : Nat, s5 = .int .i64 (i : Int) ∧ i ≤ n ∧ n - i ≤ kx ∧ Hid (Below w.heap.size w wr) ∧ Hid (∀ j, j < i → rtI g L j))
 case atStart => exact ⟨0, rfl, by omega, by omega, Lib.hid (Below.refl _ _), Lib.hid (fun j h => absurd h (by omega))⟩
 case round =>
  obtain ⟨i, rfl, hi, hix, HB, HD⟩ := hrel
  by_cases hlt : i < n
  ·have hltz : (i : Int) < (n : Int) := by omega
   obtain ⟨r, hr⟩ : ∃ r, L[i]? = some r := ⟨_, List.getElem?_eq_getElem (by rw [HN.out]; exact hlt)⟩
   obtain ⟨bb, off, hA, -, hld⟩ := rt_get HZ.out hr
   subst hA
   have HG := Lib.hid (rtD hr)
   have HLX : Hid ((Instr.loadAt 24 (.pointer (some ⟨bb, off + i * 4, none⟩))).run Try.prog wr = .ok (rtVl r) wr) := Lib.hid (hld wr HB.out)
   have HLW : Hid (∀ W, Below w.heap.size w W → (Instr.loadAt 24 (.pointer (some ⟨bb, off + i * 4, none⟩))).run Try.prog W = .ok (rtVl r) W) := Lib.hid hld
   obtain ⟨RL, hRL⟩ : ∃ RL, rtVl r = RL := ⟨_, rfl⟩
   have HP : Hid (∀ W, Calls Try.prog 35 #[.string g, RL] W fun e w' => e = .returned (.bool (rtP g r)) ∧ Below W.heap.size W w') := Lib.hid (fun W => by rw [← hRL]; exact proper_any g r W (HT.out r (List.mem_of_getElem? hr)).1.1)
   rw [hRL] at HLX
   have HRL := Lib.hid hRL
   have HLZ := Lib.hid hltz
   clear hr hld hRL
   obtain ⟨p, hp⟩ : ∃ p, rtP g r = p := ⟨_, rfl⟩
   have HPE := Lib.hid hp
   rw [hp] at HP
   clear hp
   cases p
   ·have hF : Hid (rtV g L = false) := Lib.hid (HNO.out i hlt fun h => by
     have h1 := h.1
     rw [HG.out, HPE.out] at h1
     cases h1)
    go_wp2_with (first
     | (refine wpList_load_is rfl 24 _ rfl _ rfl RL HLX.out ?_)
     | (go_at_call 35; refine (HP.out _).mono ?_; rintro e w6 ⟨rfl, hb6⟩; have HB6 := Lib.hid (HB.out.trans (hb6.mono HB.out.size)); clear hb6))
    go_ret
    exact ⟨by rw [hF.out]; rfl, HB6.out⟩
   ·go_wp2_with (first
     | (refine wpList_load_is rfl 24 _ rfl _ rfl RL HLX.out ?_)
     | (go_at_call 35; refine (HP.out _).mono ?_; rintro e w6 ⟨rfl, hb6⟩; have HB6 := Lib.hid (HB.out.trans (hb6.mono HB.out.size)); clear hb6))
    go_loopg [6] i (fun kx s6 wr => ∃ j : Nat, s6 = .int .i64 (j : Int) ∧ j ≤ i ∧ i - j ≤ kx ∧ Hid (Below w.heap.size w wr) ∧ Hid (∀ j', j' < j → (L.getD j' rt0).1 ≠ (L.getD i rt0).1))
    case atStart => exact ⟨0, rfl, by omega, by omega, HB6, Lib.hid (fun j h => absurd h (by omega))⟩
    case round =>
     obtain ⟨j, rfl, hj, hjx, HBB, HDD⟩ := hrel
     have hltz := HLZ.out
     by_cases hjl : j < i
     ·have hjz : (j : Int) < (i : Int) := by omega
      have hjn : (j : Int) < (n : Int) := by omega
      obtain ⟨q, hq⟩ : ∃ q, L[j]? = some q := ⟨_, List.getElem?_eq_getElem (by rw [HN.out]; omega)⟩
      obtain ⟨bb', off', hA', -, hld2⟩ := rt_get HZ.out hq
      obtain ⟨rfl, rfl⟩ : bb = bb' ∧ off = off' := by simpa using hA'
      have HGQ := Lib.hid (rtD hq)
      have HLY : Hid (∀ W, Below wr.heap.size wr W → (Instr.loadAt 24 (.pointer (some ⟨bb, off + j * 4, none⟩))).run Try.prog W = .ok (rtVl q) W) := Lib.hid (fun W h => hld2 W (HBB.out.trans (h.mono HBB.out.size)))
      have HLX2 : Hid (∀ W, Below wr.heap.size wr W → (Instr.loadAt 24 (.pointer (some ⟨bb, off + i * 4, none⟩))).run Try.prog W = .ok (rtVl r) W) := Lib.hid (fun W h => HLW.out W (HBB.out.trans (h.mono HBB.out.size)))
      obtain ⟨B, hB⟩ : ∃ B, decide (q.1 = r.1) = B := ⟨_, rfl⟩
      have HSK : Hid (∀ W, Calls Try.prog 30 #[rtVl q, rtVl r] W fun e w' => e = .returned (.bool B) ∧ Below W.heap.size W w') := Lib.hid (fun W => by rw [← hB]; exact sameKey_any q r W)
      have HBE := Lib.hid hB
      have HJZ := Lib.hid hjn
      clear hA' hq hld2 hB
      go_upto_region 9 with fail
      refine AK.region_facts (Rp := Below0) (Kp := Below0) (rtvL bb off n cp i j r q B) (fun _ _ W => Below wr.heap.size wr W) [[], [], [25, 26], [27], [], [], [29, 30], [31], [28, 32]] [] [[]] [0, 0, 0, 0, 0, 0, 0, 0, 0] [0, 0, 0, 0, 0, 0, 0, 0, 0] [] (fun u => by simp only [rtvL, AK.temps, List.map_cons, List.map_nil, fillL, List.setIfInBounds_toArray, List.set_cons_zero, List.set_cons_succ]; rfl) (by kernel_rfl) (by kernel_rfl) (fun _ _ h => h.size) (fun _ _ h => h) (fun _ _ _ _ hb h => h.trans (hb.mono h.size)) (dc_drew (Below.refl _ _)) ?_ ?_
      ·refine AK.sc (lim := 0) (lo := 0) rfl rfl rfl rfl ?_ ?_
       ·intro k_ u w_ hk_ hl_ hJ hF K hK
        clear hF
        go_simp
        exact hK.out _ _ (Below.refl _ _) (rfl) trivial
       refine AK.sc (lim := 0) (lo := 0) rfl rfl rfl rfl ?_ ?_
       ·intro k_ u w_ hk_ hl_ hJ hF K hK
        clear hF
        go_simp
        exact hK.out _ _ (Below.refl _ _) (rfl) trivial
       refine AK.sc (lim := 0) (lo := 0) rfl rfl rfl rfl ?_ ?_
       ·intro k_ u w_ hk_ hl_ hJ hF K hK
        have h25 : u 25 = .slice (some ⟨bb, off, none⟩) n cp := AK.facts_get hF 25 (by simp)
        have h26 : u 26 = .int .i64 (j : Int) := AK.facts_get hF 26 (by simp)
        clear hF
        simp only [h25, h26] at hK ⊢
        clear h25 h26
        have hl_ := HJZ.out
        go_simp
        exact hK.out _ _ (Below.refl _ _) (rfl) trivial
       refine AK.sc (lim := 0) (lo := 0) rfl rfl rfl rfl ?_ ?_
       ·intro k_ u w_ hk_ hl_ hJ hF K hK
        have h27 : u 27 = .pointer (some ⟨bb, off + j * 4, none⟩) := AK.facts_get hF 27 (by simp)
        clear hF
        simp only [h27] at hK ⊢
        clear h27
        refine wp_load_is 24 _ rfl _ rfl (rtVl q) (HLY.out _ hJ) ?_
        exact hK.out _ _ (Below.refl _ _) (rfl) trivial
       refine AK.sc (lim := 0) (lo := 0) rfl rfl rfl rfl ?_ ?_
       ·intro k_ u w_ hk_ hl_ hJ hF K hK
        clear hF
        go_simp
        exact hK.out _ _ (Below.refl _ _) (rfl) trivial
       refine AK.sc (lim := 0) (lo := 0) rfl rfl rfl rfl ?_ ?_
       ·intro k_ u w_ hk_ hl_ hJ hF K hK
        clear hF
        go_simp
        exact hK.out _ _ (Below.refl _ _) (rfl) trivial
       refine AK.sc (lim := 0) (lo := 0) rfl rfl rfl rfl ?_ ?_
       ·intro k_ u w_ hk_ hl_ hJ hF K hK
        have h29 : u 29 = .slice (some ⟨bb, off, none⟩) n cp := AK.facts_get hF 29 (by simp)
        have h30 : u 30 = .int .i64 (i : Int) := AK.facts_get hF 30 (by simp)
        clear hF
        simp only [h29, h30] at hK ⊢
        clear h29 h30
        have hl_ := HLZ.out
        go_simp
        exact hK.out _ _ (Below.refl _ _) (rfl) trivial
       refine AK.sc (lim := 0) (lo := 0) rfl rfl rfl rfl ?_ ?_
       ·intro k_ u w_ hk_ hl_ hJ hF K hK
        have h31 : u 31 = .pointer (some ⟨bb, off + i * 4, none⟩) := AK.facts_get hF 31 (by simp)
        clear hF
        simp only [h31] at hK ⊢
        clear h31
        refine wp_load_is 24 _ rfl _ rfl (rtVl r) (HLX2.out _ hJ) ?_
        exact hK.out _ _ (Below.refl _ _) (rfl) trivial
       refine AK.sc (lim := 0) (lo := 0) rfl rfl rfl rfl ?_ ?_
       ·intro k_ u w_ hk_ hl_ hJ hF K hK
        have h28 : u 28 = rtVl q := AK.facts_get hF 28 (by simp)
        have h32 : u 32 = rtVl r := AK.facts_get hF 32 (by simp)
        clear hF
        simp only [h28, h32] at hK ⊢
        clear h28 h32
        go_simp
        refine (HSK.out w_).mono ?_
        rintro e w6 ⟨rfl, hb6⟩
        exact hK.out _ _ hb6 (rfl) trivial
       exact AK.StepsOk.nil
      ·intro u W9 hJ9 hF
       have h33 : u 33 = .bool B := AK.facts_get hF 33 (by simp [rtvL, AK.temps])
       clear hF
       simp only [h33]
       have HJ := Lib.hid hJ9
       clear hJ9
       have HB9 : Hid (Below w.heap.size w W9) := Lib.hid (HBB.out.trans (HJ.out.mono HBB.out.size))
       cases B
       ·have HD2 : Hid (∀ j', j' < j + 1 → (L.getD j' rt0).1 ≠ (L.getD i rt0).1) := Lib.hid fun j' hj' => by
         rcases Nat.lt_or_ge j' j with h4 | h4
         ·exact HDD.out j' h4
         ·obtain rfl : j' = j := by omega
          rw [HG.out, HGQ.out]
          exact of_decide_eq_false HBE.out
        go_wp2_with fail
        go_roundg (i - (j + 1))
        case measure => omega
        case rel => exact ⟨j + 1, by go_num, by omega, by omega, HB9, HD2⟩
       ·have hF : Hid (rtV g L = false) := Lib.hid (HNO.out i hlt fun h => by
         have h1 := h.2 j hjl
         rw [HG.out, HGQ.out] at h1
         exact h1 (of_decide_eq_true HBE.out))
        go_wp2_with fail
        go_ret
        exact ⟨by rw [hF.out]; rfl, HB9.out⟩
     ·obtain rfl : j = i := by omega
      have hjz : ¬ (j : Int) < (j : Int) := by omega
      have HD3 : Hid (∀ j', j' < j + 1 → rtI g L j') := Lib.hid fun j' hj' => by
       rcases Nat.lt_or_ge j' j with h4 | h4
       ·exact HD.out j' h4
       ·obtain rfl : j' = j := by omega
        exact ⟨by rw [HG.out]; exact HPE.out, HDD.out⟩
      go_wp2_with fail
      go_roundg (n - (j + 1))
      case measure => omega
      case rel => exact ⟨j + 1, by go_num, by omega, by omega, HBB, HD3⟩
  ·obtain rfl : i = n := by omega
   have hltz : ¬ (i : Int) < (i : Int) := by omega
   have hY := HYES.out HD.out
   obtain ⟨b1, hb1⟩ : ∃ b, curB g = b := ⟨_, rfl⟩
   rw [hb1] at HC hY
   have HY := Lib.hid hY
   clear hb1 hY
   cases b1
   ·go_wp2_with (go_at_call 16; refine (HC.out _).mono ?_; rintro e w1 ⟨rfl, rfl⟩)
    go_ret
    exact ⟨by rw [HY.out]; rfl, HB.out⟩
   ·obtain ⟨b2, hb2⟩ : ∃ b, decide (i ≤ 1000) = b := ⟨_, rfl⟩
    have hb3 : decide ((i : Int) ≤ 1000) = b2 := by rw [← hb2, decide_eq_decide]; omega
    rw [hb2] at HY
    clear hb2
    cases b2
    ·go_wp2_with (go_at_call 16; refine (HC.out _).mono ?_; rintro e w1 ⟨rfl, rfl⟩)
     go_ret
     exact ⟨by rw [HY.out]; rfl, HB.out⟩
    ·go_wp2_with (go_at_call 16; refine (HC.out _).mono ?_; rintro e w1 ⟨rfl, rfl⟩)
     go_ret
     exact ⟨by rw [HY.out]; rfl, HB.out⟩
def inK (L : List Rt) (q : RK) : Bool := L.any fun r => decide (r.1 = q)
theorem inK_snoc (L : List Rt) (r : Rt) (q : RK) : inK (L ++ [r]) q = (decide (q = r.1) || inK L q) := by
 unfold inK
 rw [List.any_append, Bool.or_comm]
 congr 1
 simp [eq_comm]
theorem inK_at {L : List Rt} {k : Nat} {q : RK} (hk : k ≤ L.length) (h : inK (L.take k) q = true) : ∃ j, j < k ∧ (L.getD j rt0).1 = q := by
 unfold inK at h
 rw [List.any_eq_true] at h
 obtain ⟨x, hx, he⟩ := h
 obtain ⟨j, hj, rfl⟩ := List.getElem_of_mem hx
 rw [List.length_take] at hj
 refine ⟨j, by omega, ?_⟩
 rw [List.getElem_take] at he
 rw [List.getD_eq_getElem?_getD, List.getElem?_eq_getElem (by omega)]
 exact of_decide_eq_true he
theorem inK_no {L : List Rt} {k : Nat} {q : RK} (hk : k ≤ L.length) (h : inK (L.take k) q = false) : ∀ j, j < k → (L.getD j rt0).1 ≠ q := fun j hj e => by
 unfold inK at h
 rw [List.any_eq_false] at h
 have h1 := h (L.getD j rt0) (by
  rw [List.getD_eq_getElem?_getD, List.getElem?_eq_getElem (by omega)]
  exact List.mem_take_iff_getElem.2 ⟨j, by omega, rfl⟩)
 rw [e, decide_eq_true rfl] at h1
 exact h1 rfl
theorem mk_hint (n : Nat) (W : World) : (Instr.makeMap 55 (some (.int .i64 (n : Int)))).run Try.prog W = .ok (.map (some W.heap.size)) (W.alloc (.map #[] 0)) := by
 simp [Instr.makeMap, run_underlying Try.underlying55, asInt, asIntOf, Result.andThen]
set_option maxRecDepth 100000 in
set_option maxHeartbeats 6400000 in
theorem valid16_any (g : ByteArray) (A : Option Addr) (cp : Nat) (L : List Rt) (w : World) (hz : RowAt lyT w A L) (hl : L.length ≤ 100000) (ht : ∀ r ∈ L, okT r) : Calls Try.prog 17 #[.string g, .slice A L.length cp] w fun e w' => e = .returned (.bool (rtV g L)) ∧ Below w.heap.size w w' := by
 have HC := Lib.hid (fun w => rtcurP_any g w)
 obtain ⟨n, hn⟩ : ∃ n, L.length = n := ⟨_, rfl⟩
 have HN := Lib.hid hn
 have HT := Lib.hid ht
 rw [hn] at hl ⊢
 have HNO : Hid (∀ i, i < n → ¬ rtI g L i → rtV g L = false) := Lib.hid fun i hi h => by
  cases hv : rtV g L
  ·rfl
  ·exact absurd ((rtV_iff.1 hv).2.2 i (by rw [HN.out]; exact hi)) h
 have HV := Lib.hid (rtV_iff (g := g) (L := L))
 obtain ⟨b1, hb1⟩ : ∃ b, curB g = b := ⟨_, rfl⟩
 have HGE := Lib.hid hb1
 rw [hb1] at HC
 clear hb1
 cases b1
 ·have hF : Hid (rtV g L = false) := Lib.hid (by unfold rtV; rw [HGE.out]; rfl)
  clear hz hn ht
  go_enter Try.func17, Try.ntmps17
  go_wp2_with (go_at_call 15; refine (HC.out _).mono ?_; rintro e w1 ⟨rfl, rfl⟩)
  go_ret
  exact ⟨by rw [hF.out]; rfl, Below.refl _ _⟩
 by_cases hn1 : n ≤ 1000
 rotate_left
 ·have hF : Hid (rtV g L = false) := Lib.hid (by unfold rtV; rw [decide_eq_false (show ¬ L.length ≤ 1000 by rw [HN.out]; exact hn1)]; simp)
  have hd : decide (1000 < (n : Int)) = true := decide_eq_true (by omega)
  clear hz hn ht hn1
  go_enter Try.func17, Try.ntmps17
  go_wp2_with (go_at_call 15; refine (HC.out _).mono ?_; rintro e w1 ⟨rfl, rfl⟩)
  go_ret
  exact ⟨by rw [hF.out]; rfl, Below.refl _ _⟩
 have hd : decide (1000 < (n : Int)) = false := decide_eq_false (by omega)
 obtain ⟨s0, hs0⟩ : ∃ s0, w.heap.size = s0 := ⟨_, rfl⟩
 have HS0 := Lib.hid hs0
 obtain ⟨w2, hw2⟩ : ∃ w2, w.alloc (.map #[] 0) = w2 := ⟨_, rfl⟩
 have HSM : Hid (SetR w2 s0 0 (inK [])) := Lib.hid (by rw [← hw2, ← hs0]; exact (SetR.made w).ext fun _ => rfl)
 have HB2 : Hid (Below w.heap.size w w2) := Lib.hid (by rw [← hw2]; exact below_alloc_new _)
 have HZ := Lib.hid hz
 have hmm := mk_hint n
 clear hz hn ht
 go_enter Try.func17, Try.ntmps17
 go_wp2_with (go_at_call 15; refine (HC.out _).mono ?_; rintro e w1 ⟨rfl, rfl⟩)
 go_loopg [21] n (fun kx s21 wr => ∃ k : Nat, s21 = .int .i64 (k : Int) ∧ k ≤ n ∧ n - k ≤ kx ∧ Hid (Below w.heap.size w wr) ∧ Hid (SetR wr s0 k (inK (L.take k))) ∧ Hid (∀ j, j < k → rtI g L j))
 case atStart => exact ⟨0, rfl, by omega, by omega, HB2, HSM, Lib.hid (fun j h => absurd h (by omega))⟩
 case round =>
  obtain ⟨k, rfl, hk, hkx, HB, HS, HD⟩ := hrel
  by_cases hlt : k < n
  ·have hltz : (k : Int) < (n : Int) := by omega
   obtain ⟨r, hr⟩ : ∃ r, L[k]? = some r := ⟨_, List.getElem?_eq_getElem (by rw [HN.out]; exact hlt)⟩
   have HOT := Lib.hid (HT.out r (List.mem_of_getElem? hr))
   obtain ⟨⟨c, kd, m⟩, v⟩ := r
   have HOK : Hid (okR (c, kd, m)) := Lib.hid HOT.out.1
   obtain ⟨bb, off, hA, hbl, hld⟩ := rt_get HZ.out hr
   subst hA
   have HG := Lib.hid (rtD hr)
   have HLD : Hid ((Instr.loadAt 24 (.pointer (some ⟨bb, off + k * 4, none⟩))).run Try.prog wr = .ok (.agg #[.string c, .int .i64 kd, .int .i64 m, .int .i64 v]) wr) := Lib.hid (hld wr HB.out)
   have HTK : Hid (L.take (k + 1) = L.take k ++ [((c, kd, m), v)]) := Lib.hid (by rw [List.take_add_one, hr]; rfl)
   obtain ⟨s1, hs1⟩ : ∃ s1, wr.heap.size = s1 := ⟨_, rfl⟩
   obtain ⟨w5, hw5⟩ : ∃ w5, wr.alloc (.cells #[.string c, .int .i64 kd, .int .i64 m, .int .i64 v] 24) = w5 := ⟨_, rfl⟩
   have HX : Hid (Wh 24 w5 s1 (rtC ((c, kd, m), v))) := Lib.hid (by rw [← hw5, ← hs1]; exact rt_box wr c kd m v)
   have HLB : Hid (∀ W, Below w5.heap.size w5 W → (Instr.loadAt 24 (.pointer (some ⟨s1, 0, none⟩))).run Try.prog W = .ok (.agg #[.string c, .int .i64 kd, .int .i64 m, .int .i64 v]) W) := Lib.hid (fun W h => rate_load (HX.out.up h))
   have HR5 : Hid (Below wr.heap.size wr w5) := Lib.hid (by rw [← hw5]; exact below_alloc_new _)
   have HS5 : Hid (SetR w5 s0 k (inK (L.take k))) := Lib.hid (HS.out.up HR5.out)
   have HBC : Hid (Below w5.heap.size w5 w5) := Lib.hid (Below.refl _ _)
   have HB5 : Hid (Below w.heap.size w w5) := Lib.hid (HB.out.trans (HR5.out.mono HB.out.size))
   have HBW : Hid (∀ W, Below w5.heap.size w5 W → Below w.heap.size w W) := Lib.hid (fun W h => HB5.out.trans (h.mono HB5.out.size))
   have HK6 : Hid (k ≤ 1000000) := Lib.hid (by omega)
   obtain ⟨B, hB⟩ : ∃ B, inK (L.take k) (c, kd, m) = B := ⟨_, rfl⟩
   have HBE := Lib.hid hB
   obtain ⟨p, hp⟩ : ∃ p, rtP g ((c, kd, m), v) = p := ⟨_, rfl⟩
   have HPE := Lib.hid hp
   have HP : Hid (∀ W, Calls Try.prog 34 #[.string g, .agg #[.string c, .int .i64 kd, .int .i64 m, .int .i64 v]] W fun e w' => e = .returned (.bool p) ∧ Below W.heap.size W w') := Lib.hid (fun W => by
    have h1 := isValid_any g ((c, kd, m), v) W
    rw [HGE.out, hp] at h1
    exact h1)
   clear hr hld hbl hB hp
   cases B
   ·cases p
    ·have hF : Hid (rtV g L = false) := Lib.hid (HNO.out k hlt fun h => by
      have h1 := h.1
      rw [HG.out, HPE.out] at h1
      cases h1)
     go_wp2_with (first | (refine wpList_load_is rfl 24 _ rfl _ rfl (.agg #[.string c, .int .i64 kd, .int .i64 m, .int .i64 v]) HLD.out ?_) | (refine wpList_load_is rfl 24 _ rfl (.pointer (some ⟨s1, 0, none⟩)) rfl (.agg #[.string c, .int .i64 kd, .int .i64 m, .int .i64 v]) (HLB.out _ HBC.out) ?_) | (refine wpList_load_if (by rfl) 24 _ rfl (.pointer (some ⟨s1, 0, none⟩)) rfl (.agg #[.string c, .int .i64 kd, .int .i64 m, .int .i64 v]) (HLB.out _ HBC.out) ?_) | (go_at_call 33; refine (keyOf_any ((c, kd, m), v) _).mono ?_; rintro e w6 ⟨rfl, hb⟩; have hB3 := Lib.hid (HBC.out.trans (hb.mono HBC.out.size)); clear HBC; have HBC := hB3; clear hB3 hb; have hlk := (HS5.out.up HBC.out).look HOK.out; rw [HBE.out] at hlk) | (go_at_call 34; refine (HP.out _).mono ?_; rintro e w7 ⟨rfl, hb⟩; have hB3 := Lib.hid (HBC.out.trans (hb.mono HBC.out.size)); clear HBC; have HBC := hB3; clear hB3 hb) | (refine wpList_setr_put rfl _ _ _ rfl rfl (HS5.out.up HBC.out) (k := (c, kd, m)) rfl rfl HOK.out HK6.out ?_; intro w9 hm9 ho9))
     go_ret
     exact ⟨by rw [hF.out]; rfl, by have h9 := HBW.out _ HBC.out; first | exact h9 | (rw [← HS0.out]; exact h9)⟩
    ·have HD2 : Hid (∀ j, j < k + 1 → rtI g L j) := Lib.hid fun j hj => by
      rcases Nat.lt_or_ge j k with h4 | h4
      ·exact HD.out j h4
      ·obtain rfl : j = k := by omega
       exact ⟨by rw [HG.out]; exact HPE.out, by rw [HG.out]; exact inK_no (by have := HN.out; omega) HBE.out⟩
     go_wp2_with (first | (refine wpList_load_is rfl 24 _ rfl _ rfl (.agg #[.string c, .int .i64 kd, .int .i64 m, .int .i64 v]) HLD.out ?_) | (refine wpList_load_is rfl 24 _ rfl (.pointer (some ⟨s1, 0, none⟩)) rfl (.agg #[.string c, .int .i64 kd, .int .i64 m, .int .i64 v]) (HLB.out _ HBC.out) ?_) | (refine wpList_load_if (by rfl) 24 _ rfl (.pointer (some ⟨s1, 0, none⟩)) rfl (.agg #[.string c, .int .i64 kd, .int .i64 m, .int .i64 v]) (HLB.out _ HBC.out) ?_) | (go_at_call 33; refine (keyOf_any ((c, kd, m), v) _).mono ?_; rintro e w6 ⟨rfl, hb⟩; have hB3 := Lib.hid (HBC.out.trans (hb.mono HBC.out.size)); clear HBC; have HBC := hB3; clear hB3 hb; have hlk := (HS5.out.up HBC.out).look HOK.out; rw [HBE.out] at hlk) | (go_at_call 34; refine (HP.out _).mono ?_; rintro e w7 ⟨rfl, hb⟩; have hB3 := Lib.hid (HBC.out.trans (hb.mono HBC.out.size)); clear HBC; have HBC := hB3; clear hB3 hb) | (refine wpList_setr_put rfl _ _ _ rfl rfl (HS5.out.up HBC.out) (k := (c, kd, m)) rfl rfl HOK.out HK6.out ?_; intro w9 hm9 ho9))
     go_roundg (n - (k + 1))
     case measure => omega
     case rel =>
      refine ⟨k + 1, by go_num, by omega, by omega, Lib.hid ?_, Lib.hid (hm9.out.ext fun q => by rw [HTK.out]; exact inK_snoc _ _ _), HD2⟩
      have h8 := HBW.out _ HBC.out
      exact h8.trans (ho9.out.below (fun i hi => by have := HS0.out; omega) h8.size)
   ·have hF : Hid (rtV g L = false) := Lib.hid (HNO.out k hlt fun h => by
     obtain ⟨j, hj, he⟩ := inK_at (by have := HN.out; omega) HBE.out
     have h1 := h.2 j hj
     rw [HG.out] at h1
     exact h1 he)
    go_wp2_with (first | (refine wpList_load_is rfl 24 _ rfl _ rfl (.agg #[.string c, .int .i64 kd, .int .i64 m, .int .i64 v]) HLD.out ?_) | (refine wpList_load_is rfl 24 _ rfl (.pointer (some ⟨s1, 0, none⟩)) rfl (.agg #[.string c, .int .i64 kd, .int .i64 m, .int .i64 v]) (HLB.out _ HBC.out) ?_) | (refine wpList_load_if (by rfl) 24 _ rfl (.pointer (some ⟨s1, 0, none⟩)) rfl (.agg #[.string c, .int .i64 kd, .int .i64 m, .int .i64 v]) (HLB.out _ HBC.out) ?_) | (go_at_call 33; refine (keyOf_any ((c, kd, m), v) _).mono ?_; rintro e w6 ⟨rfl, hb⟩; have hB3 := Lib.hid (HBC.out.trans (hb.mono HBC.out.size)); clear HBC; have HBC := hB3; clear hB3 hb; have hlk := (HS5.out.up HBC.out).look HOK.out; rw [HBE.out] at hlk) | (go_at_call 34; refine (HP.out _).mono ?_; rintro e w7 ⟨rfl, hb⟩; have hB3 := Lib.hid (HBC.out.trans (hb.mono HBC.out.size)); clear HBC; have HBC := hB3; clear hB3 hb) | (refine wpList_setr_put rfl _ _ _ rfl rfl (HS5.out.up HBC.out) (k := (c, kd, m)) rfl rfl HOK.out HK6.out ?_; intro w9 hm9 ho9))
    go_ret
    exact ⟨by rw [hF.out]; rfl, by have h9 := HBW.out _ HBC.out; first | exact h9 | (rw [← HS0.out]; exact h9)⟩
  ·obtain rfl : k = n := by omega
   have hltz : ¬ (k : Int) < (k : Int) := by omega
   have hF : Hid (rtV g L = true) := Lib.hid (HV.out.2 ⟨HGE.out, by have := HN.out; omega, fun i hi => HD.out i (by have := HN.out; omega)⟩)
   go_wp2_with fail
   go_ret
   exact ⟨by rw [hF.out]; rfl, by have h9 := HB.out; first | exact h9 | (rw [← HS0.out]; exact h9)⟩
open Go.RowKit Go.Sort Go.Maps
structure TD where
 b : Nat
 g : ByteArray
 m : Nat
 A : Option Addr
 c : Nat
def TC (j : TD) (n : Nat) : List Value := [.string j.g, .map (some j.m), .slice j.A n j.c]
abbrev TD.p (j : TD) : Value := .pointer (some ⟨j.b, 0, none⟩)
def TD.to (j : TD) (A : Option Addr) (c : Nat) : TD := { j with A := A, c := c }
def hisS (j : TD) (n k : Nat) : Prop := (Value.slice j.A n j.c).ownBlock = some k
def TD.own (j : TD) (n k : Nat) : Prop := k = j.b ∨ k = j.m ∨ hisS j n k
structure TK (w : World) (B : Nat) (j : TD) (H : List Rt) : Prop where
 box : Wh 59 w j.b (TC j H.length)
 mp : MapR w j.m H.length (tbF H)
 row : OwnR lyT 24 w B (.slice j.A H.length j.c) H
 cur : curB j.g = true
 lb : B ≤ j.b
 lm : B ≤ j.m
section
variable {w w' : World} {B : Nat} {j : TD} {H : List Rt}
theorem TK.b_map (h : TK w B j H) : j.b ≠ j.m := fun e => by
 obtain ⟨es, k, h1⟩ := h.mp.isMap
 have h2 := h.box.blk
 rw [e, h1] at h2
 cases h2
theorem TK.row_blk (h : TK w B j H) {k : Nat} (hk : hisS j H.length k) : ∃ cur, w.heap[k]? = some (.cells cur 24 (0, 0)) := by
 rcases h.row.2 with ⟨h9, _⟩ | ⟨g, cap, cur, h9, hbg, hg, _⟩
 ·unfold hisS at hk; rw [h9] at hk; cases hk
 ·unfold hisS at hk; rw [h9] at hk; cases hk; exact ⟨_, hg⟩
theorem TK.b_row (h : TK w B j H) : ¬ hisS j H.length j.b := fun hk => by
 obtain ⟨cur, h1⟩ := h.row_blk hk
 have h2 := h.box.blk
 rw [h1] at h2
 injection h2 with h2
 injection h2 with _ h3
 exact absurd h3 (by decide)
theorem TK.m_row (h : TK w B j H) : ¬ hisS j H.length j.m := fun hk => by
 obtain ⟨cur, h1⟩ := h.row_blk hk
 obtain ⟨es, k, h2⟩ := h.mp.isMap
 rw [h1] at h2
 cases h2
theorem TK.r_lt (h : TK w B j H) {k : Nat} (hk : hisS j H.length k) : B ≤ k ∧ k < w.heap.size := h.row.lt hk
theorem TK.own_lt (h : TK w B j H) {k : Nat} (hk : j.own H.length k) : B ≤ k ∧ k < w.heap.size := by
 rcases hk with rfl | rfl | hk
 ·exact ⟨h.lb, h.box.lt⟩
 ·exact ⟨h.lm, h.mp.lt⟩
 ·exact h.r_lt hk
theorem TK.only {S : Nat → Prop} (h : TK w B j H) (hb : Only S w w') (hS : ∀ k, j.own H.length k → ¬ S k) : TK w' B j H :=
 ⟨h.box.only hb (hS _ (.inl rfl)), h.mp.only hb (hS _ (.inr (.inl rfl))), h.row.blk fun g hg => hb.blk g (h.row.lt hg).2 (hS g (.inr (.inr hg))), h.cur, h.lb, h.lm⟩
theorem TK.up (h : TK w B j H) (hb : Below w.heap.size w w') : TK w' B j H := h.only (S := fun _ => False) (Only.of hb) (fun _ _ => id)
theorem TK.low {B2 : Nat} (h : TK w B j H) (hb : B2 ≤ B) : TK w B2 j H := ⟨h.box, h.mp, h.row.low hb, h.cur, Nat.le_trans hb h.lb, Nat.le_trans hb h.lm⟩
theorem TK.reads (h : TK w B j H) : RowAt lyT w j.A H := by
 obtain ⟨A, c, e, h1, _⟩ := h.row.reads
 injection e with e1 _ _
 rw [e1]; exact h1
end
theorem infoT : (Try.prog.info? 24).map (fun i => (i.zero, i.size, i.bytes)) = some (some (.agg #[.string ⟨#[]⟩, .int .i64 0, .int .i64 0, .int .i64 0]), 4, 40) := by kernel_rfl
theorem mapr_put_w {b n : Nat} {f : RK → Option Int} {o : Oper} {a : Act} {w : World} {K : Act → World → Prop} {Q : Exit → Act → World → Prop} (m x y : Operand) (hop : o.op = Op.mapUpdate 57 m x y)
  (hm : a.eval m = .map (some b)) (hs : MapR w b n f) {k : RK} (hx : a.eval x = keyV k) (v : Int) (hy : a.eval y = .int .i64 v) (hk : okR k) (hn : n ≤ 1000000)
  (hK : ∀ W, Hid (MapR W b (n + 1) (fun q => if q = k then some v else f q)) → Hid (Only (fun j => j = b) w W) → K (a.put o.dst undef) W) : o.wp Try.prog a w K Q := by
 obtain ⟨W, hrun, r1, r2⟩ := hs.put hk hn v
 unfold Oper.wp
 simp [execOp, hop, hm, hx, hy, hrun, Result.andThen]
 exact hK W (Lib.hid r1) (Lib.hid r2)
def trJ (b n : Nat) (f g : RK → Option Int) (w0 : World) (k : Nat) (_ : List Value) (W : World) : Prop := Only (fun i => i = b) w0 W ∧ (match k with | 0 => MapR W b n f | _ + 1 => MapR W b (n + 1) g)
theorem trJ.st (b n : Nat) (f g : RK → Option Int) (w0 : World) : ∀ k l W W', Below W.heap.size W W' → trJ b n f g w0 k l W → trJ b n f g w0 k l W'
 | 0, _, _, _, hb, h => ⟨h.1.trans (Only.of hb), h.2.up hb⟩
 | _ + 1, _, _, _, hb, h => ⟨h.1.trans (Only.of hb), h.2.up hb⟩
def trJ2 (w0 : World) (j : TD) (n B : Nat) (H : List Rt) (x : Rt) : Nat → List Value → World → Prop
 | 0, _, W => Below w0.heap.size w0 W
 | 1, l, W => Below w0.heap.size w0 W ∧ ∀ v, l = [v] → ∃ g, v = .slice (some ⟨g, 0, none⟩) 1 1 ∧ w0.heap.size ≤ g ∧ Wh 24 W g (rtC x)
 | 2, l, W => Only (hisS j n) w0 W ∧ ∀ v, l = [v] → OwnR lyT 24 W B v (H ++ [x]) ∧ (∀ g, v.ownBlock = some g → hisS j n g ∨ w0.heap.size ≤ g)
 | _ + 3, _, W => Only (fun k => k = j.b ∨ hisS j n k) w0 W ∧ ∃ A c, Wh 59 W j.b [.string j.g, .map (some j.m), .slice A (H ++ [x]).length c] ∧ OwnR lyT 24 W B (.slice A (H ++ [x]).length c) (H ++ [x]) ∧ (∀ g, (Value.slice A (H ++ [x]).length c).ownBlock = some g → hisS j n g ∨ w0.heap.size ≤ g)
theorem trJ2.st (w0 : World) (j : TD) (n B : Nat) (H : List Rt) (x : Rt) : ∀ k l W W', Below W.heap.size W W' → trJ2 w0 j n B H x k l W → trJ2 w0 j n B H x k l W'
 | 0, _, _, _, hb, h => Below.trans h (hb.mono (Below.size h))
 | 1, _, _, _, hb, h => ⟨h.1.trans (hb.mono h.1.size), fun v hv => by obtain ⟨g, h1, h2, h3⟩ := h.2 v hv; exact ⟨g, h1, h2, h3.up hb⟩⟩
 | 2, _, _, _, hb, h => ⟨h.1.trans (Only.of hb), fun v hv => ⟨(h.2 v hv).1.up hb, (h.2 v hv).2⟩⟩
 | _ + 3, _, _, _, hb, h => by
  obtain ⟨h0, A, c, h1, h2, h3⟩ := h
  exact ⟨h0.trans (Only.of hb), A, c, h1.up hb, h2.up hb, h3⟩
section
variable {w0 w W : World} {j : TD} {n B k : Nat} {H : List Rt} {x : Rt} {l : List Value}
theorem trJ2.low (h : trJ2 w0 j n B H x k l W) (hk : k ≤ 1) : Below w0.heap.size w0 W := by
 match k, hk with
 | 0, _ => exact h
 | 1, _ => exact h.1
theorem trJ2.one (h : Below w0.heap.size w0 W) : trJ2 w0 j n B H x 1 [.slice (some ⟨W.heap.size, 0, none⟩) 1 1] (W.alloc (.cells #[.string x.1.1, .int .i64 x.1.2.1, .int .i64 x.1.2.2, .int .i64 x.2] 24)) :=
 ⟨h.trans ((below_alloc_new _).mono h.size), fun v hv => by cases hv; exact ⟨_, rfl, h.size, Wh.new W 24 (rtC x)⟩⟩
theorem trJ2.two {v : Value} (h : Below w0.heap.size w0 w) (ho : OwnR lyT 24 W B v (H ++ [x])) (hg : w.grownBy W (Value.slice j.A n j.c).ownBlock) (hb : v.ownBlock = (Value.slice j.A n j.c).ownBlock ∨ v.ownBlock = some w.heap.size) : trJ2 w0 j n B H x 2 [v] W :=
 ⟨(Only.of h).trans (Only.grown hg fun k hk => hk), fun v' hv => by
  cases hv
  refine ⟨ho, fun g hg2 => ?_⟩
  rcases hb with hb | hb
  ·exact .inl (by unfold hisS; rw [← hb]; exact hg2)
  ·rw [hb] at hg2
   injection hg2 with hg2
   exact .inr (by rw [← hg2]; exact h.size)⟩
theorem trJ2.three {A : Option Addr} {c : Nat} (ho : Only (hisS j n) w0 W) (hr : OwnR lyT 24 W B (.slice A (H ++ [x]).length c) (H ++ [x])) (hn : ∀ g, (Value.slice A (H ++ [x]).length c).ownBlock = some g → hisS j n g ∨ w0.heap.size ≤ g)
  (hb : Wh 59 W j.b (TC j n)) (hnr : ¬ hisS j n j.b) (hlt : j.b < w0.heap.size) : trJ2 w0 j n B H x 3 [] (W.setCell ⟨j.b, 2, none⟩ (.slice A (H ++ [x]).length c)) := by
 refine ⟨(ho.wide fun k _ hk => .inr hk).trans (Only.setCell W (a := ⟨j.b, 2, none⟩) (.inl rfl) _), A, c, hb.set 2 _, hr.blk fun g hg => Below.heap_setCell W ⟨j.b, 2, none⟩ _ g (fun e => ?_), hn⟩
 have e2 : g = j.b := e
 rcases hn g hg with h | h
 ·exact hnr (by rw [← e2]; exact h)
 ·omega
end
def tpF1 (j : TD) (s0 _n : Nat) (x : Rt) : List (Nat × AK.Fact (SizeUp)) := [(4, AK.Fact.is (.pointer (some ⟨j.b, 0, none⟩))), (5, AK.Fact.is (.pointer (some ⟨j.b, 0, none⟩))), (6, AK.Fact.is (.pointer (some ⟨j.b, 1, none⟩))), (7, AK.Fact.is (.map (some j.m))), (8, AK.Fact.is (rtVl x)), (9, AK.Fact.is (keyV x.1)), (10, AK.Fact.is (.pointer (some ⟨s0, 3, none⟩))), (11, AK.Fact.is (.int .i64 x.2))]
def tpF2 (j : TD) (_s0 n : Nat) (x : Rt) : List (Nat × AK.Fact (SizeUp)) := [(12, AK.Fact.is (.pointer (some ⟨j.b, 0, none⟩))), (13, AK.Fact.is (.pointer (some ⟨j.b, 0, none⟩))), (14, AK.Fact.is (.pointer (some ⟨j.b, 0, none⟩))), (15, AK.Fact.is (.pointer (some ⟨j.b, 2, none⟩))), (16, AK.Fact.is (.slice j.A n j.c)), (17, AK.Fact.is (rtVl x)), (18, AK.Fact.triv), (19, AK.Fact.triv), (20, AK.Fact.is (.pointer (some ⟨j.b, 0, none⟩))), (21, AK.Fact.is (.pointer (some ⟨j.b, 2, none⟩)))]
def PutQ (w : World) (B : Nat) (j : TD) (H G : List Rt) (w' : World) : Prop := ∃ A c, TK w' B (j.to A c) G ∧ Only (j.own H.length) w w' ∧ (∀ g, hisS (j.to A c) G.length g → hisS j H.length g ∨ w.heap.size ≤ g)
set_option maxRecDepth 100000 in
set_option maxHeartbeats 6400000 in
theorem put_any (j : TD) (H : List Rt) (x : Rt) (B : Nat) (w : World) (hj : TK w B j H) (hBw : B ≤ w.heap.size) (hok : okR x.1) (hn : H.length ≤ 5000) : Calls Try.prog 38 #[j.p, rtVl x] w fun e w' => e = .returned (.tuple #[]) ∧ PutQ w B j H (H ++ [x]) w' := by
 obtain ⟨i0, hi, hz1, hz2, hz3⟩ := info_parts infoT
 obtain ⟨s0, hs0⟩ : ∃ s0, w.heap.size = s0 := ⟨_, rfl⟩
 obtain ⟨w2, hw2⟩ : ∃ w2, w.alloc (.cells #[.string x.1.1, .int .i64 x.1.2.1, .int .i64 x.1.2.2, .int .i64 x.2] 24) = w2 := ⟨_, rfl⟩
 have HXB : Hid (Wh 24 w2 s0 (rtC x)) := Lib.hid (by rw [← hw2, ← hs0]; exact Wh.new w _ _)
 have HB2 : Hid (Below w.heap.size w w2) := Lib.hid (by rw [← hw2]; exact below_alloc_new _)
 have HS2 : Hid (w2.heap.size = s0 + 1) := Lib.hid (by rw [← hw2, ← hs0]; simp)
 have HS0 := Lib.hid hs0
 have HJ := Lib.hid hj
 have HOK := Lib.hid hok
 obtain ⟨n, hnl⟩ : ∃ n, H.length = n := ⟨_, rfl⟩
 have HLN := Lib.hid hnl
 rw [hnl] at hn
 have HN := Lib.hid hn
 have HBB := Lib.hid hBw
 have hbl : j.b < s0 := by rw [← hs0]; exact hj.box.lt
 have hml : j.m < s0 := by rw [← hs0]; exact hj.mp.lt
 have HBX : Hid (Wh 59 w2 j.b (TC j n)) := Lib.hid (by rw [← hnl]; exact hj.box.up HB2.out)
 have HIX : Hid (MapR w2 j.m n (tbF H)) := Lib.hid (by rw [← hnl]; exact hj.mp.up HB2.out)
 have HNB : Hid (¬ j.b = j.m) := Lib.hid hj.b_map
 have HNX : Hid (¬ s0 = j.m) := Lib.hid (by omega)
 have HNR : Hid (¬ hisS j n j.b) := Lib.hid (by rw [← hnl]; exact hj.b_row)
 have HLR : Hid (∀ k, hisS j n k → k < s0 ∧ k ≠ j.m) := Lib.hid (fun k hk => by
  rw [← hnl] at hk
  exact ⟨by rw [← hs0]; exact (hj.r_lt hk).2, fun e => hj.m_row (by rw [← e]; exact hk)⟩)
 have HLL : Hid (j.b < s0 ∧ j.m < s0) := Lib.hid ⟨hbl, hml⟩
 clear hj hok hBw hbl hml hn hnl
 go_enter Try.func38, Try.ntmps38
 go_wp2_with fail
 refine AK.region_facts (Rp := Below0) (Kp := SizeUp) (tpF1 j s0 n x) (trJ j.m n (tbF H) (fun q => if q = x.1 then some x.2 else tbF H q) w2) [[], [4], [5], [6], [], [8], [], [10], [7, 9, 11]] [8] [[], []] [1, 1, 1, 1, 1, 1, 1, 1, 1] [0, 0, 0, 0, 0, 0, 0, 0, 0] [] (fun u => by simp only [tpF1, AK.temps, List.map_cons, List.map_nil, fillL, List.setIfInBounds_toArray, List.set_cons_zero, List.set_cons_succ]; rfl) (by kernel_rfl) (by kernel_rfl) (fun _ _ h => h) (fun _ _ h => h.size) (trJ.st _ _ _ _ _) (⟨(Only.refl _).drew, HIX.out.up (dc_drew (Below.refl _ _))⟩) ?_ ?_
 ·refine AK.sc (lim := 1) (lo := 0) rfl rfl rfl rfl ?_ ?_
  ·intro k_ u w_ hk_ hl_ hJ hF K hK
   clear hF
   go_simp
   exact hK.out _ _ (Below.refl _ _) (rfl) trivial
  refine AK.sc (lim := 1) (lo := 0) rfl rfl rfl rfl ?_ ?_
  ·intro k_ u w_ hk_ hl_ hJ hF K hK
   have h4 : u 4 = .pointer (some ⟨j.b, 0, none⟩) := AK.facts_get hF 4 (by simp)
   clear hF
   simp only [h4] at hK ⊢
   clear h4
   go_simp
   exact hK.out _ _ (Below.refl _ _) (rfl) trivial
  refine AK.sc (lim := 1) (lo := 0) rfl rfl rfl rfl ?_ ?_
  ·intro k_ u w_ hk_ hl_ hJ hF K hK
   have h5 : u 5 = .pointer (some ⟨j.b, 0, none⟩) := AK.facts_get hF 5 (by simp)
   clear hF
   simp only [h5] at hK ⊢
   clear h5
   go_simp
   exact hK.out _ _ (Below.refl _ _) (rfl) trivial
  refine AK.sc (lim := 1) (lo := 0) rfl rfl rfl rfl ?_ ?_
  ·intro k_ u w_ hk_ hl_ hJ hF K hK
   have h6 : u 6 = .pointer (some ⟨j.b, 1, none⟩) := AK.facts_get hF 6 (by simp)
   clear hF
   simp only [h6] at hK ⊢
   clear h6
   have c_ := (HBX.out.only hJ.1 HNB.out).at 1 _ rfl
   go_simp
   exact hK.out _ _ (Below.refl _ _) (rfl) trivial
  refine AK.sc (lim := 1) (lo := 0) rfl rfl rfl rfl ?_ ?_
  ·intro k_ u w_ hk_ hl_ hJ hF K hK
   clear hF
   refine wp_load_is 24 _ rfl _ rfl (rtVl x) (rate_load (HXB.out.only hJ.1 HNX.out)) ?_
   exact hK.out _ _ (Below.refl _ _) (rfl) trivial
  refine AK.sc (lim := 1) (lo := 0) rfl rfl rfl rfl ?_ ?_
  ·intro k_ u w_ hk_ hl_ hJ hF K hK
   have h8 : u 8 = rtVl x := AK.facts_get hF 8 (by simp)
   clear hF
   simp only [h8] at hK ⊢
   clear h8
   go_simp
   refine (keyOf_any x w_).mono ?_
   rintro e w6 ⟨rfl, hb6⟩
   exact hK.out _ _ hb6 (rfl) trivial
  refine AK.sc (lim := 1) (lo := 0) rfl rfl rfl rfl ?_ ?_
  ·intro k_ u w_ hk_ hl_ hJ hF K hK
   clear hF
   go_simp
   exact hK.out _ _ (Below.refl _ _) (rfl) trivial
  refine AK.sc (lim := 1) (lo := 0) rfl rfl rfl rfl ?_ ?_
  ·intro k_ u w_ hk_ hl_ hJ hF K hK
   have h10 : u 10 = .pointer (some ⟨s0, 3, none⟩) := AK.facts_get hF 10 (by simp)
   clear hF
   simp only [h10] at hK ⊢
   clear h10
   have c_ := (HXB.out.only hJ.1 HNX.out).at 3 _ rfl
   go_simp
   exact hK.out _ _ (Below.refl _ _) (rfl) trivial
  refine AK.ss rfl rfl ?_ ?_
  ·intro u w_ hJ hA_ hF K hK
   have h7 : u 7 = .map (some j.m) := AK.facts_get hF 7 (by simp)
   have h9 : u 9 = keyV x.1 := AK.facts_get hF 9 (by simp)
   have h11 : u 11 = .int .i64 x.2 := AK.facts_get hF 11 (by simp)
   clear hF
   simp only [h7, h9, h11] at hK ⊢
   clear h7 h9 h11
   refine mapr_put_w _ _ _ rfl rfl hJ.2 (k := x.1) rfl x.2 rfl HOK.out (by have := HN.out; omega) ?_
   intro W hm9 ho9
   exact hK.out _ _ ⟨hJ.1.trans ho9.out, hm9.out⟩ (ho9.out.size) trivial
  exact AK.StepsOk.nil
 ·intro u W9 hJ9 hF
  clear hF
  obtain ⟨ho3, hm3⟩ := hJ9
  have HO3 := Lib.hid ho3
  have HM3 : Hid (MapR W9 j.m (n + 1) (tbF (H ++ [x]))) := Lib.hid (MapR.ext hm3 fun q => tbF_snoc H x q)
  have HXB3 := Lib.hid (HXB.out.only ho3 HNX.out)
  have HBX3 := Lib.hid (HBX.out.only ho3 HNB.out)
  have HRW : Hid (OwnR lyT 24 W9 B (.slice j.A n j.c) H) := Lib.hid ((show OwnR lyT 24 w2 B (.slice j.A n j.c) H by rw [← HLN.out]; exact HJ.out.row.up HB2.out).blk fun g hg => ho3.blk g (by have := (HLR.out g hg).1; have := HS2.out; omega) (HLR.out g hg).2)
  have HBW : Hid (B ≤ W9.heap.size) := Lib.hid (by have := ho3.size; have := HB2.out.size; have := HBB.out; omega)
  have HBW2 : Hid (j.b < W9.heap.size) := Lib.hid (by have := ho3.size; have := HLL.out; have := HS2.out; omega)
  have HSZ3 : Hid (s0 + 1 ≤ W9.heap.size) := Lib.hid (by have := ho3.size; have := HS2.out; omega)
  clear ho3 hm3 HXB HBX HIX hw2
  have HXB := HXB3
  have HBX := HBX3
  clear HXB3 HBX3
  obtain ⟨w3, hw3⟩ : ∃ w3, W9 = w3 := ⟨_, rfl⟩
  subst hw3
  go_wp2_with fail
  refine AK.region_facts (Rp := Below0) (Kp := SizeUp) (tpF2 j s0 n x) (trJ2 W9 j n B H x) [[], [], [13], [14], [15], [], [17], [16, 18], [12], [20], [21, 19]] [6, 7, 10] [[], [18], [19], []] [3, 3, 3, 3, 1, 0, 3, 3, 3, 3, 3] [0, 0, 0, 0, 0, 0, 0, 0, 0, 0, 0] [] (fun u => by simp only [tpF2, AK.temps, List.map_cons, List.map_nil, fillL, List.setIfInBounds_toArray, List.set_cons_zero, List.set_cons_succ]; rfl) (by kernel_rfl) (by kernel_rfl) (fun _ _ h => h) (fun _ _ h => h.size) (trJ2.st _ _ _ _ _ _) (dc_drew (Below.refl _ _)) ?_ ?_
  ·refine AK.sc (lim := 3) (lo := 0) rfl rfl rfl rfl ?_ ?_
   ·intro k_ u w_ hk_ hl_ hJ hF K hK
    clear hF
    go_simp
    exact hK.out _ _ (Below.refl _ _) (rfl) trivial
   refine AK.sc (lim := 3) (lo := 0) rfl rfl rfl rfl ?_ ?_
   ·intro k_ u w_ hk_ hl_ hJ hF K hK
    clear hF
    go_simp
    exact hK.out _ _ (Below.refl _ _) (rfl) trivial
   refine AK.sc (lim := 3) (lo := 0) rfl rfl rfl rfl ?_ ?_
   ·intro k_ u w_ hk_ hl_ hJ hF K hK
    have h13 : u 13 = .pointer (some ⟨j.b, 0, none⟩) := AK.facts_get hF 13 (by simp)
    clear hF
    simp only [h13] at hK ⊢
    clear h13
    go_simp
    exact hK.out _ _ (Below.refl _ _) (rfl) trivial
   refine AK.sc (lim := 3) (lo := 0) rfl rfl rfl rfl ?_ ?_
   ·intro k_ u w_ hk_ hl_ hJ hF K hK
    have h14 : u 14 = .pointer (some ⟨j.b, 0, none⟩) := AK.facts_get hF 14 (by simp)
    clear hF
    simp only [h14] at hK ⊢
    clear h14
    go_simp
    exact hK.out _ _ (Below.refl _ _) (rfl) trivial
   refine AK.sc (lim := 1) (lo := 0) rfl rfl rfl rfl ?_ ?_
   ·intro k_ u w_ hk_ hl_ hJ hF K hK
    have h15 : u 15 = .pointer (some ⟨j.b, 2, none⟩) := AK.facts_get hF 15 (by simp)
    clear hF
    simp only [h15] at hK ⊢
    clear h15
    have hb9 := trJ2.low hJ (by omega)
    have c_ := (HBX.out.up hb9).at 2 _ rfl
    go_simp
    exact hK.out _ _ (Below.refl _ _) (rfl) trivial
   refine AK.sc (lim := 0) (lo := 0) rfl rfl rfl rfl ?_ ?_
   ·intro k_ u w_ hk_ hl_ hJ hF K hK
    obtain rfl : k_ = 0 := by omega
    clear hF
    have hb9 := trJ2.low hJ (by omega)
    refine wp_load_is 24 _ rfl (.pointer (some ⟨s0, 0, none⟩)) rfl (rtVl x) (rate_load (HXB.out.up hb9)) ?_
    exact hK.out _ _ (Below.refl _ _) (rfl) trivial
   refine AK.ss rfl rfl ?_ ?_
   ·intro u w_ hJ hA_ hF K hK
    have h17 : u 17 = rtVl x := AK.facts_get hF 17 (by simp)
    clear hF
    simp only [h17] at hK ⊢
    clear h17
    go_simp
    exact hK.out _ _ (trJ2.one (trJ2.low hJ (by omega))) (by simp) trivial
   refine AK.ss rfl rfl ?_ ?_
   ·intro u w_ hJ hA_ hF K hK
    have h16 : u 16 = .slice j.A n j.c := AK.facts_get hF 16 (by simp)
    clear hF
    obtain ⟨hb9, hl9⟩ := hJ
    obtain ⟨g9, hv9, hg9, hw9⟩ := hl9 _ rfl
    simp only [h16, hv9] at hK ⊢
    clear h16 hv9
    refine wp_app_row (R := lyT) (v := .slice j.A n j.c) (.tmp 16) (.tmp 18) 22 rfl i0 _ 40 Try.underlying22 hi hz1 hz2 hz3 (by omega) rfl rfl (HRW.out.up hb9) (some ⟨g9, 0, none⟩) 1 1 [x] rfl rfl (row_one hw9) (by have := HLN.out; have := HN.out; simp; omega) (by have := hb9.size; have := HBW.out; omega) ?_
    intro v' w' ho' hg' hb'
    exact hK.out _ _ (trJ2.two hb9 ho'.out hg'.out hb'.out) (hg'.out.size) trivial
   refine AK.sc (lim := 3) (lo := 0) rfl rfl rfl rfl ?_ ?_
   ·intro k_ u w_ hk_ hl_ hJ hF K hK
    have h12 : u 12 = .pointer (some ⟨j.b, 0, none⟩) := AK.facts_get hF 12 (by simp)
    clear hF
    simp only [h12] at hK ⊢
    clear h12
    go_simp
    exact hK.out _ _ (Below.refl _ _) (rfl) trivial
   refine AK.sc (lim := 3) (lo := 0) rfl rfl rfl rfl ?_ ?_
   ·intro k_ u w_ hk_ hl_ hJ hF K hK
    have h20 : u 20 = .pointer (some ⟨j.b, 0, none⟩) := AK.facts_get hF 20 (by simp)
    clear hF
    simp only [h20] at hK ⊢
    clear h20
    go_simp
    exact hK.out _ _ (Below.refl _ _) (rfl) trivial
   refine AK.ss rfl rfl ?_ ?_
   ·intro u w_ hJ hA_ hF K hK
    have h21 : u 21 = .pointer (some ⟨j.b, 2, none⟩) := AK.facts_get hF 21 (by simp)
    clear hF
    simp only [h21] at hK ⊢
    clear h21
    obtain ⟨ho9, hl9⟩ := hJ
    obtain ⟨hr9, hn9⟩ := hl9 _ rfl
    obtain ⟨A9, c9, h19, hq9, -⟩ := hr9.reads
    have hbx := HBX.out.only ho9 HNR.out
    have c_ := hbx.at 2 _ rfl
    have y_ := hbx.frozen 2
    rw [h19] at hr9 hn9
    simp only [h19] at hK ⊢
    clear h19 hl9 hq9
    have k9 := trJ2.three ho9 hr9 hn9 hbx HNR.out HBW2.out
    obtain ⟨n9, he9⟩ : ∃ n9, (H ++ [x]).length = n9 := ⟨_, rfl⟩
    rw [he9] at k9 hK ⊢
    clear hr9 hn9 he9
    go_simp
    exact hK.out undef _ k9 (by simp [World.setCell]) trivial
   exact AK.StepsOk.nil
  ·intro u8 W8 hJ8 hF
   clear hF
   obtain ⟨ho8, A8, c8, hb8, hr8, hn8⟩ := hJ8
   have hi8 := HM3.out.blk (ho8.blk _ (by have := HLL.out; have := HSZ3.out; omega) (fun h => by rcases h with h | h; exact HNB.out h.symm; exact (HLR.out _ h).2 rfl))
   have HB8 := Lib.hid hb8
   have HR8 := Lib.hid hr8
   have HI8 := Lib.hid hi8
   have HO8 := Lib.hid ho8
   have HN8 := Lib.hid hn8
   clear ho8 hb8 hr8 hn8 hi8
   go_end0
   refine ⟨rfl, A8, c8, ⟨HB8.out, ?_, HR8.out, HJ.out.cur, HJ.out.lb, HJ.out.lm⟩, ?_, fun g hg => ?_⟩
   ·have h9 := HI8.out
    rw [← HLN.out] at h9
    rw [List.length_append]
    exact h9
   ·refine ((Only.of HB2.out).trans (HO3.out.wide fun k _ hk => .inr (.inl hk))).trans (HO8.out.wide fun k _ hk => ?_)
    rcases hk with hk | hk
    ·exact .inl hk
    ·exact .inr (.inr (by rw [HLN.out]; exact hk))
   ·rcases HN8.out g hg with h | h
    ·exact .inl (by rw [HLN.out]; exact h)
    ·exact .inr (by have := HSZ3.out; have := HS0.out; omega)
open Go.RowKit Go.Sort Go.Maps
set_option maxRecDepth 100000 in
set_option maxHeartbeats 3200000 in
theorem cloneT_any (A : Option Addr) (c : Nat) (X : List Rt) (w : World) (hz : RowAt lyT w A X) (hl : X.length ≤ 100000) : Calls Try.prog 39 #[.slice A X.length c] w fun e w' => (∃ A' c', e = .returned (.slice A' X.length c') ∧ OwnR lyT 24 w' w.heap.size (.slice A' X.length c') X) ∧ Below w.heap.size w w' := by
 obtain ⟨n, hn⟩ : ∃ n, X.length = n := ⟨_, rfl⟩
 rw [hn] at hl ⊢
 have HN := Lib.hid hn
 have HZ := Lib.hid hz
 clear hz hn
 obtain ⟨i0, hi, hz1, hz2, hz3⟩ := info_parts infoT
 rcases A with _ | ad
 ·have hx : X = [] := by
   rcases X with _ | ⟨x, X⟩
   ·rfl
   ·obtain ⟨b, off, e, _⟩ := HZ.out (by simp)
    cases e
  have hn0 : n = 0 := by rw [← HN.out, hx]; rfl
  subst hn0
  have HX := Lib.hid hx
  clear hx
  have kn := fun w : World => Lib.run_eql_slice_nil (P := Try.prog) w 22 24 none 0 c 0 0 Try.underlying22
  go_enter Try.func39, Try.ntmps39
  go_wp2_with fail
  go_ret
  exact ⟨⟨none, 0, rfl, by rw [HX.out]; exact OwnR.nil⟩, Below.refl _ _⟩
 ·have HB := Lib.hid (below_alloc_new (w := w) (.cells #[] 24))
  have HE : Hid (OwnR lyT 24 (w.alloc (.cells #[] 24)) w.heap.size (.slice (some ⟨w.heap.size, 0, none⟩) 0 0) []) := Lib.hid (OwnR.empty (Nat.le_refl _))
  have HZ2 := Lib.hid (HZ.out.up HB.out)
  have kn := fun w : World => Lib.run_eql_slice_nil (P := Try.prog) w 22 24 (some ad) n c 0 0 Try.underlying22
  go_enter Try.func39, Try.ntmps39
  go_wp2_with (at_builtin; refine wpList_app_row (R := lyT) (v := .slice (some ⟨w.heap.size, 0, none⟩) 0 0) rfl (.tmp 5) (.tmp 6) 22 rfl i0 _ 40 Try.underlying22 hi hz1 hz2 hz3 (by omega) rfl rfl HE.out (some ad) n c X HN.out rfl HZ2.out (by simp; omega) (Nat.le_of_lt (by simp)) ?_; intro v5 w5 ho5 hg5 hn5; obtain ⟨A5, c5, e5, -, -⟩ := ho5.out.reads; rw [List.nil_append, HN.out] at e5; obtain rfl := e5; have HO5 : Hid (OwnR lyT 24 w5 w.heap.size (.slice A5 n c5) X) := Lib.hid ho5.out; have HB5 : Hid (Below w.heap.size w w5) := Lib.hid (HB.out.grown hg5.out (by simp) (fun k hk => Nat.le_of_eq (Option.some.inj hk))); clear ho5 hg5 hn5)
  go_ret
  exact ⟨⟨A5, c5, rfl, HO5.out⟩, HB5.out⟩
def ifF1 (j : TD) (_s0 : Nat) (k : RK) (V : Int) (B : Bool) : List (Nat × AK.Fact (Below0)) := [(8, AK.Fact.is (.pointer (some ⟨j.b, 0, none⟩))), (9, AK.Fact.is (.pointer (some ⟨j.b, 0, none⟩))), (10, AK.Fact.is (.pointer (some ⟨j.b, 1, none⟩))), (11, AK.Fact.is (.map (some j.m))), (12, AK.Fact.is (keyV k)), (13, AK.Fact.is (.tuple #[.int .i64 V, .bool B])), (7, AK.Fact.is (.tuple #[.int .i64 V, .bool B])), (14, AK.Fact.is (.int .i64 V)), (15, AK.Fact.is (.bool B)), (5, AK.Fact.is (.int .i64 V)), (6, AK.Fact.is (.bool B))]
set_option maxRecDepth 100000 in
set_option maxHeartbeats 6400000 in
theorem isFull_any (j : TD) (H : List Rt) (k : RK) (B0 : Nat) (w : World) (hj : TK w B0 j H) (hok : okR k) (hn : H.length ≤ 900) : Calls Try.prog 37 #[j.p, keyV k] w fun e w' => e = .returned (.bool false) ∧ Below w.heap.size w w' := by
 obtain ⟨s0, hs0⟩ : ∃ s0, w.heap.size = s0 := ⟨_, rfl⟩
 obtain ⟨w2, hw2⟩ : ∃ w2, w.alloc (.cells #[.string k.1, .int .i64 k.2.1, .int .i64 k.2.2] 53) = w2 := ⟨_, rfl⟩
 have hk2 : Wh 53 w2 s0 [.string k.1, .int .i64 k.2.1, .int .i64 k.2.2] := by rw [← hw2, ← hs0]; exact Wh.new w 53 [.string k.1, .int .i64 k.2.1, .int .i64 k.2.2]
 have HB2 : Hid (Below w.heap.size w w2) := Lib.hid (by rw [← hw2]; exact below_alloc_new _)
 have HKB := Lib.hid hk2
 have HKL : Hid (∀ W, Below w2.heap.size w2 W → (Instr.loadAt 53 (.pointer (some ⟨s0, 0, none⟩))).run Try.prog W = .ok (keyV k) W) := Lib.hid (fun W h => (HKB.out.up h).rg.load 0 53 [.string k.1, .int .i64 k.2.1, .int .i64 k.2.2] rfl _ Try.underlying53 rfl (by kernel_rfl))
 obtain ⟨n, hnl⟩ : ∃ n, H.length = n := ⟨_, rfl⟩
 have HBX : Hid (Wh 59 w2 j.b (TC j n)) := Lib.hid (by rw [← hnl]; exact hj.box.up HB2.out)
 have HMP : Hid (MapR w2 j.m n (tbF H)) := Lib.hid (by rw [← hnl]; exact hj.mp.up HB2.out)
 obtain ⟨V, hV⟩ : ∃ V, (tbF H k).getD 0 = V := ⟨_, rfl⟩
 obtain ⟨B, hB⟩ : ∃ B, (tbF H k).isSome = B := ⟨_, rfl⟩
 have HLK : Hid (∀ W, Below w2.heap.size w2 W → (Instr.lookup 57 (.map (some j.m)) (keyV k) true).run Try.prog W = .ok (.tuple #[.int .i64 V, .bool B]) W) := Lib.hid (fun W h => by rw [← hV, ← hB]; exact (HMP.out.up h).look_ok hok)
 rw [hnl] at hn
 have HS0 := Lib.hid hs0
 have HN := Lib.hid hn
 have HBW : Hid (∀ W, Below w2.heap.size w2 W → Below w.heap.size w W) := Lib.hid (fun W h => HB2.out.trans (h.mono HB2.out.size))
 clear hk2 hj hok hV hB hnl
 go_enter Try.func37, Try.ntmps37
 go_wp2_with fail
 refine AK.region_facts (Rp := Below0) (Kp := Below0) (ifF1 j s0 k V B) (fun _ _ W => Below w2.heap.size w2 W) [[], [8], [9], [10], [], [11, 12], [13], [7], [7], [14], [15]] [] [[]] [0, 0, 0, 0, 0, 0, 0, 0, 0, 0, 0] [0, 0, 0, 0, 0, 0, 0, 0, 0, 0, 0] [] (fun u => by simp only [ifF1, AK.temps, List.map_cons, List.map_nil, fillL, List.setIfInBounds_toArray, List.set_cons_zero, List.set_cons_succ]; rfl) (by kernel_rfl) (by kernel_rfl) (fun _ _ h => h.size) (fun _ _ h => h) (fun _ _ _ _ hb h => h.trans (hb.mono h.size)) (dc_drew (Below.refl _ _)) ?_ ?_
 ·refine AK.sc (lim := 0) (lo := 0) rfl rfl rfl rfl ?_ ?_
  ·intro k_ u w_ hk_ hl_ hJ hF K hK
   clear hF
   go_simp
   exact hK.out _ _ (Below.refl _ _) (rfl) trivial
  refine AK.sc (lim := 0) (lo := 0) rfl rfl rfl rfl ?_ ?_
  ·intro k_ u w_ hk_ hl_ hJ hF K hK
   have h8 : u 8 = .pointer (some ⟨j.b, 0, none⟩) := AK.facts_get hF 8 (by simp)
   clear hF
   simp only [h8] at hK ⊢
   clear h8
   go_simp
   exact hK.out _ _ (Below.refl _ _) (rfl) trivial
  refine AK.sc (lim := 0) (lo := 0) rfl rfl rfl rfl ?_ ?_
  ·intro k_ u w_ hk_ hl_ hJ hF K hK
   have h9 : u 9 = .pointer (some ⟨j.b, 0, none⟩) := AK.facts_get hF 9 (by simp)
   clear hF
   simp only [h9] at hK ⊢
   clear h9
   go_simp
   exact hK.out _ _ (Below.refl _ _) (rfl) trivial
  refine AK.sc (lim := 0) (lo := 0) rfl rfl rfl rfl ?_ ?_
  ·intro k_ u w_ hk_ hl_ hJ hF K hK
   have h10 : u 10 = .pointer (some ⟨j.b, 1, none⟩) := AK.facts_get hF 10 (by simp)
   clear hF
   simp only [h10] at hK ⊢
   clear h10
   have c_ := (HBX.out.up hJ).at 1 _ rfl
   go_simp
   exact hK.out _ _ (Below.refl _ _) (rfl) trivial
  refine AK.sc (lim := 0) (lo := 0) rfl rfl rfl rfl ?_ ?_
  ·intro k_ u w_ hk_ hl_ hJ hF K hK
   clear hF
   refine wp_load_is 53 _ rfl _ rfl (keyV k) (HKL.out _ hJ) ?_
   exact hK.out _ _ (Below.refl _ _) (rfl) trivial
  refine AK.sc (lim := 0) (lo := 0) rfl rfl rfl rfl ?_ ?_
  ·intro k_ u w_ hk_ hl_ hJ hF K hK
   have h11 : u 11 = .map (some j.m) := AK.facts_get hF 11 (by simp)
   have h12 : u 12 = keyV k := AK.facts_get hF 12 (by simp)
   clear hF
   simp only [h11, h12] at hK ⊢
   clear h11 h12
   have c_ := HLK.out _ hJ
   go_simp
   exact hK.out _ _ (Below.refl _ _) (rfl) trivial
  refine AK.sc (lim := 0) (lo := 0) rfl rfl rfl rfl ?_ ?_
  ·intro k_ u w_ hk_ hl_ hJ hF K hK
   have h13 : u 13 = .tuple #[.int .i64 V, .bool B] := AK.facts_get hF 13 (by simp)
   clear hF
   simp only [h13] at hK ⊢
   clear h13
   go_simp
   exact hK.out _ _ (Below.refl _ _) (rfl) trivial
  refine AK.sc (lim := 0) (lo := 0) rfl rfl rfl rfl ?_ ?_
  ·intro k_ u w_ hk_ hl_ hJ hF K hK
   have h7 : u 7 = .tuple #[.int .i64 V, .bool B] := AK.facts_get hF 7 (by simp)
   clear hF
   simp only [h7] at hK ⊢
   clear h7
   go_simp
   exact hK.out _ _ (Below.refl _ _) (rfl) trivial
  refine AK.sc (lim := 0) (lo := 0) rfl rfl rfl rfl ?_ ?_
  ·intro k_ u w_ hk_ hl_ hJ hF K hK
   have h7 : u 7 = .tuple #[.int .i64 V, .bool B] := AK.facts_get hF 7 (by simp)
   clear hF
   simp only [h7] at hK ⊢
   clear h7
   go_simp
   exact hK.out _ _ (Below.refl _ _) (rfl) trivial
  refine AK.sc (lim := 0) (lo := 0) rfl rfl rfl rfl ?_ ?_
  ·intro k_ u w_ hk_ hl_ hJ hF K hK
   have h14 : u 14 = .int .i64 V := AK.facts_get hF 14 (by simp)
   clear hF
   simp only [h14] at hK ⊢
   clear h14
   go_simp
   exact hK.out _ _ (Below.refl _ _) (rfl) trivial
  refine AK.sc (lim := 0) (lo := 0) rfl rfl rfl rfl ?_ ?_
  ·intro k_ u w_ hk_ hl_ hJ hF K hK
   have h15 : u 15 = .bool B := AK.facts_get hF 15 (by simp)
   clear hF
   simp only [h15] at hK ⊢
   clear h15
   go_simp
   exact hK.out _ _ (Below.refl _ _) (rfl) trivial
  exact AK.StepsOk.nil
 ·intro u W9 hJ9 hF
  have h6 : u 6 = .bool B := AK.facts_get hF 6 (by simp [ifF1, AK.temps])
  clear hF
  simp only [h6]
  have HJ := Lib.hid hJ9
  clear hJ9
  have hbx9 := HBX.out.up HJ.out
  have c1 := hbx9.at 1 _ rfl
  have c2 := hbx9.at 2 _ rfl
  obtain ⟨q, hq, hlen⟩ := (HMP.out.up HJ.out).size 3
  have hq1 : decide ((q : Int) ≥ 1000) = false := decide_eq_false (by omega)
  have hq3 : decide (1000 ≤ (q : Int)) = false := decide_eq_false (by omega)
  have hq2 : decide ((n : Int) ≥ 5000) = false := decide_eq_false (by omega)
  have hq4 : decide (5000 ≤ (n : Int)) = false := decide_eq_false (by omega)
  clear hbx9
  cases B
  ·go_wp2_with fail
   go_ret
   exact ⟨rfl, by have h9 := HBW.out _ HJ.out; first | exact h9 | (rw [← HS0.out]; exact h9)⟩
  ·go_wp2_with fail
   go_ret
   exact ⟨rfl, by have h9 := HBW.out _ HJ.out; first | exact h9 | (rw [← HS0.out]; exact h9)⟩
def seF1 (j : TD) (_s0 : Nat) (x : Rt) (P : Bool) : List (Nat × AK.Fact (Below0)) := [(7, AK.Fact.is (.pointer (some ⟨j.b, 0, none⟩))), (8, AK.Fact.is (.pointer (some ⟨j.b, 0, none⟩))), (9, AK.Fact.is (.pointer (some ⟨j.b, 0, none⟩))), (10, AK.Fact.is (.string j.g)), (11, AK.Fact.is (rtVl x)), (12, AK.Fact.is (.bool P)), (13, AK.Fact.is (.bool (!P)))]
def SetQ (w : World) (B : Nat) (j : TD) (H : List Rt) (x : Rt) (e : Ending) (w' : World) : Prop := e = .returned (.int .i64 (if rtP j.g x then 0 else 1)) ∧ PutQ w B j H (adR j.g H x) w'
theorem PutQ.same {w w' : World} {B : Nat} {j : TD} {H : List Rt} (h : TK w B j H) (hb : Below w.heap.size w w') : PutQ w B j H H w' := ⟨j.A, j.c, h.up hb, Only.of hb, fun _ hg => .inl hg⟩
theorem PutQ.pre {w w1 w' : World} {B : Nat} {j : TD} {H G : List Rt} (h : PutQ w1 B j H G w') (hb : Below w.heap.size w w1) : PutQ w B j H G w' := by
 obtain ⟨A, c, h1, h2, h3⟩ := h
 refine ⟨A, c, h1, (Only.of hb).trans h2, fun g hg => ?_⟩
 rcases h3 g hg with h4 | h4
 ·exact .inl h4
 ·exact .inr (Nat.le_trans hb.size h4)
set_option maxRecDepth 100000 in
set_option maxHeartbeats 6400000 in
theorem set_any (j : TD) (H : List Rt) (x : Rt) (B : Nat) (w : World) (hj : TK w B j H) (hBw : B ≤ w.heap.size) (hok : okR x.1) (hn : H.length ≤ 900) : Calls Try.prog 22 #[j.p, rtVl x] w fun e w' => SetQ w B j H x e w' := by
 obtain ⟨s0, hs0⟩ : ∃ s0, w.heap.size = s0 := ⟨_, rfl⟩
 obtain ⟨w2, hw2⟩ : ∃ w2, w.alloc (.cells #[.string x.1.1, .int .i64 x.1.2.1, .int .i64 x.1.2.2, .int .i64 x.2] 24) = w2 := ⟨_, rfl⟩
 have HXB : Hid (Wh 24 w2 s0 (rtC x)) := Lib.hid (by rw [← hw2, ← hs0]; exact Wh.new w _ _)
 have HB2 : Hid (Below w.heap.size w w2) := Lib.hid (by rw [← hw2]; exact below_alloc_new _)
 have HBX : Hid (Wh 59 w2 j.b (TC j H.length)) := Lib.hid (hj.box.up HB2.out)
 have HJ := Lib.hid hj
 have HOK := Lib.hid hok
 have HN := Lib.hid hn
 have HBB := Lib.hid hBw
 have HS0 := Lib.hid hs0
 have HBW : Hid (∀ W, Below w2.heap.size w2 W → Below w.heap.size w W) := Lib.hid (fun W h => HB2.out.trans (h.mono HB2.out.size))
 obtain ⟨P, hP⟩ : ∃ P, rtP j.g x = P := ⟨_, rfl⟩
 have HPE := Lib.hid hP
 have HIV : Hid (∀ W, Calls Try.prog 34 #[.string j.g, rtVl x] W fun e w' => e = .returned (.bool P) ∧ Below W.heap.size W w') := Lib.hid (fun W => by
  have h1 := isValid_any j.g x W
  rw [hj.cur, hP] at h1
  exact h1)
 clear hj hok hBw hP hn
 go_enter Try.func22, Try.ntmps22
 go_wp2_with fail
 refine AK.region_facts (Rp := Below0) (Kp := Below0) (seF1 j s0 x P) (fun _ _ W => Below w2.heap.size w2 W) [[], [7], [8], [9], [], [10, 11], [12]] [] [[]] [0, 0, 0, 0, 0, 0, 0] [0, 0, 0, 0, 0, 0, 0] [] (fun u => by simp only [seF1, AK.temps, List.map_cons, List.map_nil, fillL, List.setIfInBounds_toArray, List.set_cons_zero, List.set_cons_succ]; rfl) (by kernel_rfl) (by kernel_rfl) (fun _ _ h => h.size) (fun _ _ h => h) (fun _ _ _ _ hb h => h.trans (hb.mono h.size)) (dc_drew (Below.refl _ _)) ?_ ?_
 ·refine AK.sc (lim := 0) (lo := 0) rfl rfl rfl rfl ?_ ?_
  ·intro k_ u w_ hk_ hl_ hJ hF K hK
   clear hF
   go_simp
   exact hK.out _ _ (Below.refl _ _) (rfl) trivial
  refine AK.sc (lim := 0) (lo := 0) rfl rfl rfl rfl ?_ ?_
  ·intro k_ u w_ hk_ hl_ hJ hF K hK
   have h7 : u 7 = .pointer (some ⟨j.b, 0, none⟩) := AK.facts_get hF 7 (by simp)
   clear hF
   simp only [h7] at hK ⊢
   clear h7
   go_simp
   exact hK.out _ _ (Below.refl _ _) (rfl) trivial
  refine AK.sc (lim := 0) (lo := 0) rfl rfl rfl rfl ?_ ?_
  ·intro k_ u w_ hk_ hl_ hJ hF K hK
   have h8 : u 8 = .pointer (some ⟨j.b, 0, none⟩) := AK.facts_get hF 8 (by simp)
   clear hF
   simp only [h8] at hK ⊢
   clear h8
   go_simp
   exact hK.out _ _ (Below.refl _ _) (rfl) trivial
  refine AK.sc (lim := 0) (lo := 0) rfl rfl rfl rfl ?_ ?_
  ·intro k_ u w_ hk_ hl_ hJ hF K hK
   have h9 : u 9 = .pointer (some ⟨j.b, 0, none⟩) := AK.facts_get hF 9 (by simp)
   clear hF
   simp only [h9] at hK ⊢
   clear h9
   have c_ := (HBX.out.up hJ).at 0 _ rfl
   go_simp
   exact hK.out _ _ (Below.refl _ _) (rfl) trivial
  refine AK.sc (lim := 0) (lo := 0) rfl rfl rfl rfl ?_ ?_
  ·intro k_ u w_ hk_ hl_ hJ hF K hK
   clear hF
   refine wp_load_is 24 _ rfl _ rfl (rtVl x) (rate_load (HXB.out.up hJ)) ?_
   exact hK.out _ _ (Below.refl _ _) (rfl) trivial
  refine AK.sc (lim := 0) (lo := 0) rfl rfl rfl rfl ?_ ?_
  ·intro k_ u w_ hk_ hl_ hJ hF K hK
   have h10 : u 10 = .string j.g := AK.facts_get hF 10 (by simp)
   have h11 : u 11 = rtVl x := AK.facts_get hF 11 (by simp)
   clear hF
   simp only [h10, h11] at hK ⊢
   clear h10 h11
   go_simp
   refine (HIV.out w_).mono ?_
   rintro e w6 ⟨rfl, hb6⟩
   exact hK.out _ _ hb6 (rfl) trivial
  refine AK.sc (lim := 0) (lo := 0) rfl rfl rfl rfl ?_ ?_
  ·intro k_ u w_ hk_ hl_ hJ hF K hK
   have h12 : u 12 = .bool P := AK.facts_get hF 12 (by simp)
   clear hF
   simp only [h12] at hK ⊢
   clear h12
   go_simp
   exact hK.out _ _ (Below.refl _ _) (rfl) trivial
  exact AK.StepsOk.nil
 ·intro u W9 hJ9 hF
  have h13 : u 13 = .bool (!P) := AK.facts_get hF 13 (by simp [seF1, AK.temps])
  clear hF
  simp only [h13]
  have HBC := Lib.hid hJ9
  clear hJ9
  cases P
  ·go_wp2_with fail
   go_ret
   exact ⟨by rw [HPE.out]; rfl, by unfold adR; rw [HPE.out]; exact PutQ.same HJ.out (HBW.out _ HBC.out)⟩
  ·go_wp2_with (first
    | (refine wpList_load_is rfl 24 _ rfl (.pointer (some ⟨s0, 0, none⟩)) rfl (rtVl x) (rate_load (HXB.out.up HBC.out)) ?_)
    | (go_at_call 33; refine (keyOf_any x _).mono ?_; rintro e w6 ⟨rfl, hb⟩; have hB3 := Lib.hid (HBC.out.trans (hb.mono HBC.out.size)); clear HBC; have HBC := hB3; clear hB3 hb)
    | (go_at_call 37; refine (isFull_any j H x.1 B _ (HJ.out.up (HBW.out _ HBC.out)) HOK.out HN.out).mono ?_; rintro e w7 ⟨rfl, hb⟩; have hB3 := Lib.hid (HBC.out.trans (hb.mono HBC.out.size)); clear HBC; have HBC := hB3; clear hB3 hb)
    | (go_at_call 38; have hj8 := HJ.out.up (HBW.out _ HBC.out); refine (put_any j H x B _ hj8 (by have := (HBW.out _ HBC.out).size; have := HBB.out; omega) HOK.out (by have := HN.out; omega)).mono ?_; rintro e w8 ⟨rfl, hq⟩; have HQ := Lib.hid hq; clear hq hj8))
   go_ret
   exact ⟨by rw [HPE.out]; rfl, by unfold adR; rw [HPE.out]; exact HQ.out.pre (HBW.out _ HBC.out)⟩
theorem set_nil (x : Rt) (w : World) : Calls Try.prog 22 #[.pointer none, rtVl x] w fun e w' => e = .returned (.int .i64 7) ∧ Below w.heap.size w w' := by
 have HB := Lib.hid (below_alloc_new (w := w) (.cells #[.string x.1.1, .int .i64 x.1.2.1, .int .i64 x.1.2.2, .int .i64 x.2] 24))
 go_enter Try.func22, Try.ntmps22
 go_wp2_with fail
 go_ret
 exact ⟨rfl, HB.out⟩
def NewT (w : World) (g : ByteArray) (e : Ending) (w' : World) : Prop := if curB g = true then ∃ b m, e = .returned (.tuple #[.pointer (some ⟨b, 0, none⟩), .int .i64 0]) ∧ TK w' w.heap.size ⟨b, g, m, none, 0⟩ [] else e = .returned (.tuple #[.pointer none, .int .i64 1])
set_option maxRecDepth 100000 in
set_option maxHeartbeats 3200000 in
theorem new_any16 (g : ByteArray) (w : World) : Calls Try.prog 19 #[.string g] w fun e w' => NewT w g e w' ∧ Below w.heap.size w w' := by
 have HC := Lib.hid (fun w => rtcurP_any g w)
 have hmm := @run_makeMap Try.prog
 cases hq : curB g
 ·rw [hq] at HC
  have HQ := Lib.hid hq
  clear hq
  go_enter Try.func19, Try.ntmps19
  go_wp2_with (go_at_call 15; refine (HC.out _).mono ?_; rintro e w1 ⟨rfl, rfl⟩)
  go_ret2
  exact ⟨by unfold NewT; rw [HQ.out]; rfl, Below.refl _ _⟩
 ·rw [hq] at HC
  have HQ := Lib.hid hq
  clear hq
  obtain ⟨s0, hs0⟩ : ∃ s0, w.heap.size = s0 := ⟨_, rfl⟩
  obtain ⟨w2, hw2⟩ : ∃ w2, w.alloc (.map #[] 0) = w2 := ⟨_, rfl⟩
  obtain ⟨w3, hw3⟩ : ∃ w3, w2.alloc (.cells #[.string g, .map (some s0), .slice none 0 0] 59) = w3 := ⟨_, rfl⟩
  have HM : Hid (MapR w2 s0 0 (tbF [])) := Lib.hid (by rw [← hw2, ← hs0]; exact (MapR.made w).ext fun _ => rfl)
  have hs2 : w2.heap.size = s0 + 1 := by rw [← hw2, ← hs0]; simp
  have HX : Hid (Wh 59 w3 (s0 + 1) [.string g, .map (some s0), .slice none 0 0]) := Lib.hid (by rw [← hw3, ← hs2]; exact Wh.new w2 _ _)
  have HB3 : Hid (Below w2.heap.size w2 w3) := Lib.hid (by rw [← hw3]; exact below_alloc_new _)
  have HB2 : Hid (Below w.heap.size w w2) := Lib.hid (by rw [← hw2]; exact below_alloc_new _)
  have HS0 := Lib.hid hs0
  go_enter Try.func19, Try.ntmps19
  go_wp2_with (go_at_call 15; refine (HC.out _).mono ?_; rintro e w1 ⟨rfl, rfl⟩)
  go_ret2
  refine ⟨?_, ?_⟩
  ·unfold NewT
   rw [if_pos HQ.out]
   refine ⟨s0 + 1, s0, rfl, HX.out, HM.out.up HB3.out, OwnR.nil, HQ.out, ?_, ?_⟩
   ·show w.heap.size ≤ s0 + 1
    have := HS0.out; omega
   ·show w.heap.size ≤ s0
    have := HS0.out; omega
  ·have h9 := HB2.out.trans (HB3.out.mono HB2.out.size)
   first | exact h9 | (rw [← HS0.out]; exact h9)
set_option maxRecDepth 100000 in
theorem get_any (j : TD) (H : List Rt) (q : RK) (B : Nat) (w : World) (hj : TK w B j H) (hok : okR q) : Calls Try.prog 27 #[j.p, .string q.1, .int .i64 q.2.1, .int .i64 q.2.2] w fun e w' => e = .returned (.tuple #[.int .i64 ((tbF H q).getD 0), .bool (tbF H q).isSome]) ∧ w = w' := by
 have c1 := hj.box.at 1 _ rfl
 have hlk := hj.mp.look_ok hok
 obtain ⟨V, hV⟩ : ∃ V, (tbF H q).getD 0 = V := ⟨_, rfl⟩
 obtain ⟨P, hP⟩ : ∃ P, (tbF H q).isSome = P := ⟨_, rfl⟩
 rw [hV, hP] at hlk ⊢
 clear hj hok hV hP
 go_enter Try.func27, Try.ntmps27
 go_wp2_with fail
 go_ret2
 exact ⟨rfl, rfl⟩
theorem get_nil (q : RK) (w : World) : Calls Try.prog 27 #[.pointer none, .string q.1, .int .i64 q.2.1, .int .i64 q.2.2] w fun e w' => e = .returned (.tuple #[.int .i64 0, .bool false]) ∧ w = w' := by
 go_enter Try.func27, Try.ntmps27
 go_wp2_with fail
 go_ret2
 exact ⟨rfl, rfl⟩
def RowQ (w : World) (L : List Rt) (e : Ending) (w' : World) : Prop := ∃ A c, e = .returned (.slice A L.length c) ∧ OwnR lyT 24 w' w.heap.size (.slice A L.length c) L
set_option maxRecDepth 100000 in
theorem his_any (j : TD) (H : List Rt) (B : Nat) (w : World) (hj : TK w B j H) (hn : H.length ≤ 100000) : Calls Try.prog 26 #[j.p] w fun e w' => RowQ w H e w' ∧ Below w.heap.size w w' := by
 have c2 := hj.box.at 2 _ rfl
 have HC := Lib.hid (cloneT_any j.A j.c H w hj.reads hn)
 obtain ⟨n, hnl⟩ : ∃ n, H.length = n := ⟨_, rfl⟩
 have HN := Lib.hid hnl
 rw [hnl] at c2 HC
 clear hj hn hnl
 go_enter Try.func26, Try.ntmps26
 go_wp2_with (go_at_call 39; refine HC.out.mono ?_; rintro e w3 ⟨⟨A', c', rfl, hr⟩, hb⟩; have HR := Lib.hid hr; have HB := Lib.hid hb; clear hr hb)
 go_ret
 exact ⟨⟨A', c', by rw [HN.out]; rfl, by rw [HN.out]; exact HR.out⟩, HB.out⟩
theorem his_nil (w : World) : Calls Try.prog 26 #[.pointer none] w fun e w' => e = .returned (.slice none 0 0) ∧ w = w' := by
 go_enter Try.func26, Try.ntmps26
 go_wp2_with fail
 go_ret
 exact ⟨rfl, rfl⟩
theorem listT_nil (w : World) : Calls Try.prog 28 #[.pointer none] w fun e w' => e = .returned (.slice none 0 0) ∧ w = w' := by
 go_enter Try.func28, Try.ntmps28
 go_wp2_with fail
 go_ret
 exact ⟨rfl, rfl⟩
theorem clone_nil16 (w : World) : Calls Try.prog 32 #[.pointer none] w fun e w' => e = .returned (.pointer none) ∧ w = w' := by
 go_enter Try.func32, Try.ntmps32
 go_wp2_with fail
 go_ret
 exact ⟨rfl, rfl⟩
open Go.RowKit
theorem addr_plus (b off k : Nat) : (⟨b, off, none⟩ : Addr).add k = ⟨b, off + k, none⟩ := by unfold Addr.add; split <;> simp_all
section
variable {α : Type} {R : Lay α} {e : TypeId} {w : World}
end
open Go.RowKit Go.Sort
def KpT (m : Nat) (W W' : World) : Prop := W.heap.size ≤ W'.heap.size ∧ ∀ (b : Nat) (cs : Array Value) (e : TypeId), W.heap[b]? = some (Obj.cells cs e) → e ≠ 24 ∨ cs.size ≤ 4 * m → W'.heap[b]? = W.heap[b]?
section
variable {W W' : World} {m : Nat}
theorem KpT.of (h : Below W.heap.size W W') : KpT m W W' := ⟨h.size, fun b cs e hb _ => h.block b (by
 rcases Nat.lt_or_ge b W.heap.size with h1 | h1
 ·exact h1
 ·rw [Array.getElem?_eq_none h1] at hb; cases hb)⟩
theorem KpT.wh {cs : List Value} {b : Nat} (h : KpT m W W') (hw : Wh 24 W b cs) (hl : cs.length ≤ 4 * m) : Wh 24 W' b cs := hw.same (h.2 b _ _ hw.blk (.inr (by simpa using hl)))
end
section
variable {α : Type} {R : Lay α} {e : TypeId} {base : Nat} {v : Value} {L : List α} {w : World}
theorem wp_app_growB {P : Program} {o : Oper} {a : Act} {K : Act → World → Prop} {Q : Exit → Act → World → Prop} (s x : Operand) (t : TypeId)
  (ho : o.op = .call { callee := .builtin .append, args := #[s, x], argTypes := #[t, t] })
  (i : TypeInfo) (z : Value) (ht : P.underlying t = some (.slice e)) (hi : P.info? e = some i) (hz : i.zero = some z) (hsize : i.size = R.s) (hby : i.bytes = 40) (hzs : z.cells.size = R.s)
  (b off cap : Nat) (L : List α) (hs : a.eval s = .slice (some ⟨b, off, none⟩) L.length cap) (hL : RowAt R w (some ⟨b, off, none⟩) L) (X : Option Addr) (m c : Nat) (M : List α) (hm : M.length = m) (hx : a.eval x = .slice X m c) (hX : RowAt R w X M) (h0 : 0 < m)
  (hfull : cap < L.length + m) (hlen : L.length + m ≤ 3518437208800)
  (h : ∀ v' w', Hid (OwnR R e w' w.heap.size v' (L ++ M)) → Hid (w.grownBy w' none) → K (a.put o.dst v') w') : Oper.wp P o a w K Q := by
 subst hm
 obtain ⟨b2, off2, rfl, -, hc⟩ := hX h0
 obtain ⟨v', w', hr, h2, h3⟩ := run_append_arg_grows (P := P) (w := w) t o.type e i z R.s 40 ht hi hz hsize hby hzs R.pos ⟨b, off, none⟩ L.length cap (R.all L) (R.all_len L)
  (fun j u hj => by
   rw [addr_plus]
   have hl : 0 < L.length := by
    rcases Nat.eq_zero_or_pos L.length with h9 | h9
    ·obtain rfl : L = [] := List.eq_nil_of_length_eq_zero h9
     simp [Lay.all] at hj
    ·exact h9
   obtain ⟨b3, o3, e3, -, hr3⟩ := hL hl
   cases e3
   exact hr3 j u hj) ⟨b2, off2, none⟩ M.length c (R.all M) (R.all_len M) (fun j u hj => by rw [addr_plus]; exact hc j u hj) hfull (by unfold maxLen; omega) (by omega)
 unfold Oper.wp execOp
 simp only [ho, resolve, invoke, builtin, Sem.run_bind, Sem.run_pure, Result.andThen_ok, List.map_toArray, List.map_cons, List.map_nil, hs, hx, hr]
 refine h v' w' (Lib.hid ?_) (Lib.hid h3)
 unfold OwnR
 rw [List.length_append, R.all_append]
 exact h2
theorem wp_app_rowB {P : Program} {o : Oper} {a : Act} {K : Act → World → Prop} {Q : Exit → Act → World → Prop} (s x : Operand) (t : TypeId)
  (ho : o.op = .call { callee := .builtin .append, args := #[s, x], argTypes := #[t, t] })
  (i : TypeInfo) (z : Value) (ht : P.underlying t = some (.slice e)) (hi : P.info? e = some i) (hz : i.zero = some z) (hsize : i.size = R.s) (hby : i.bytes = 40) (hzs : z.cells.size = R.s)
  (hs : a.eval s = v) (hown : OwnR R e w base v L) (X : Option Addr) (m c : Nat) (M : List α) (hm : M.length = m) (hx : a.eval x = .slice X m c) (hX : RowAt R w X M)
  (hlen : L.length + m ≤ 3518437208800) (hbase : base ≤ w.heap.size)
  (h : ∀ v' w', Hid (OwnR R e w' base v' (L ++ M)) → Hid (w.grownBy w' v.ownBlock) → Hid (v'.ownBlock = v.ownBlock ∨ v'.ownBlock = some w.heap.size) → K (a.put o.dst v') w') : Oper.wp P o a w K Q := by
 subst hm
 rcases Nat.eq_zero_or_pos M.length with h0 | h0
 ·obtain rfl : M = [] := List.eq_nil_of_length_eq_zero h0
  have hrun : (Builtin.append_ #[t, t] o.type #[v, .slice X 0 c]).run P w = .ok v w := by
   rcases hown.2 with ⟨rfl, h9⟩ | ⟨g, cap, cur, rfl, hb, hg, hn, hcap, hcs, hcur⟩
   ·cases X <;> simp [Builtin.append_, run_underlying ht, sizeOf, typeInfo, hi, Builtin.lenOf, Builtin.firstCells, loadCells, loadCellsFrom]
   ·cases X <;> simp [Builtin.append_, run_underlying ht, sizeOf, typeInfo, hi, Builtin.lenOf, Builtin.firstCells, storeCells, loadCells, loadCellsFrom, hn]
  unfold Oper.wp
  simp [execOp, ho, resolve, invoke, builtin, hs, hx, hrun, Result.andThen]
  exact h v w (Lib.hid (by simpa using hown)) (Lib.hid ⟨rfl, rfl, rfl, Nat.le_refl _, fun _ _ _ => rfl⟩) (Lib.hid (.inl rfl))
 ·obtain ⟨b, off, rfl, hlt, hc⟩ := hX h0
  obtain ⟨v', w', hr, h2, h3, h4, h5⟩ := run_append_own_at (P := P) w base t o.type e i z R.s 40 ht hi hz hsize hby hzs R.pos v L.length (R.all L) hown ⟨b, off, none⟩ M.length c (R.all M) (R.all_len M)
   (fun j u hj => by
    have hadd : (⟨b, off, none⟩ : Addr).add j = ⟨b, off + j, none⟩ := by unfold Addr.add; split <;> simp_all
    rw [hadd]
    exact hc j u hj) (R.all_one M) (by unfold maxLen; omega) (by omega) hbase
  unfold Oper.wp execOp
  simp only [ho, resolve, invoke, builtin, Sem.run_bind, Sem.run_pure, Result.andThen_ok, List.map_toArray, List.map_cons, List.map_nil, hs, hx, hr]
  refine h v' w' (Lib.hid ?_) (Lib.hid h3) (Lib.hid h5)
  unfold OwnR
  rw [List.length_append, R.all_append]
  exact h2
end
def NilT (B : Nat) (v : Value) (w : World) : Prop := ∃ b, v = .slice (some ⟨b, 0, none⟩) 0 0 ∧ B ≤ b ∧ Wh 24 w b []
theorem nilT_new {w : World} {B : Nat} (hB : B ≤ w.heap.size) : NilT B (.slice (some ⟨w.heap.size, 0, none⟩) 0 0) (w.alloc (.cells #[] 24)) := ⟨_, rfl, hB, Wh.new w 24 []⟩
def nilF (m B : Nat) : AK.Fact (KpT m) := ⟨NilT B, fun _ _ _ hb ⟨b, h1, h2, h3⟩ => ⟨b, h1, h2, hb.wh h3 (by simp)⟩⟩
def FullT (w : World) (B : Nat) (v : Value) (L : List Rt) : Prop := OwnR lyT 24 w B v L ∧ (L = [] → ∃ b, v = .slice (some ⟨b, 0, none⟩) 0 0)
theorem FullT.up {w w' : World} {B : Nat} {v : Value} {L : List Rt} (h : FullT w B v L) (hb : Below w.heap.size w w') : FullT w' B v L := ⟨h.1.up hb, h.2⟩
theorem wp_app_copy {P : Program} {o : Oper} {a : Act} {w : World} {K : Act → World → Prop} {Q : Exit → Act → World → Prop} (s x : Operand) (t : TypeId)
  (ho : o.op = .call { callee := .builtin .append, args := #[s, x], argTypes := #[t, t] })
  (i : TypeInfo) (z : Value) (ht : P.underlying t = some (.slice 24)) (hi : P.info? 24 = some i) (hz : i.zero = some z) (hsize : i.size = lyT.s) (hby : i.bytes = 40) (hzs : z.cells.size = lyT.s)
  {v : Value} {B : Nat} (hs : a.eval s = v) (hv : NilT B v w) (X : Option Addr) (m c : Nat) (M : List Rt) (hm : M.length = m) (hx : a.eval x = .slice X m c) (hX : RowAt lyT w X M) (hlen : m ≤ 3518437208800) (hB : B ≤ w.heap.size)
  (h : ∀ v' w', FullT w' B v' M → Below w.heap.size w w' → K (a.put o.dst v') w') : Oper.wp P o a w K Q := by
 obtain ⟨b, rfl, hb, hw⟩ := hv
 rcases Nat.eq_zero_or_pos m with h0 | h0
 ·subst h0
  obtain rfl : M = [] := List.eq_nil_of_length_eq_zero hm
  have hrun : (Builtin.append_ #[t, t] o.type #[.slice (some ⟨b, 0, none⟩) 0 0, .slice X 0 c]).run P w = .ok (.slice (some ⟨b, 0, none⟩) 0 0) w := by
   cases X <;> simp [Builtin.append_, run_underlying ht, sizeOf, typeInfo, hi, Builtin.lenOf, Builtin.firstCells, storeCells, loadCells, loadCellsFrom]
  unfold Oper.wp
  simp [execOp, ho, resolve, invoke, builtin, hs, hx, hrun, Result.andThen]
  refine h _ w ⟨⟨by simp [Lay.all], .inr ⟨b, 0, #[], rfl, hb, hw.blk, Nat.le_refl _, Nat.zero_le _, by simp, by simp [Lay.all]⟩⟩, fun _ => ⟨b, rfl⟩⟩ (Below.refl _ _)
 ·refine wp_app_growB (R := lyT) s x t ho i z ht hi hz hsize hby hzs b 0 0 [] hs RowAt.nil X m c M hm hx hX h0 (by simp; omega) (by simp; omega) ?_
  intro v' w' h1 h2
  exact h v' w' ⟨h1.out.low hB, fun e => by rw [e] at hm; simp at hm; omega⟩ ((Below.refl _ _).grown h2.out (Nat.le_refl _) (fun k hk => by cases hk))
theorem wp_app_few {P : Program} {o : Oper} {a : Act} {w : World} {K : Act → World → Prop} {Q : Exit → Act → World → Prop} (s x : Operand) (t : TypeId)
  (ho : o.op = .call { callee := .builtin .append, args := #[s, x], argTypes := #[t, t] })
  (i : TypeInfo) (z : Value) (ht : P.underlying t = some (.slice 24)) (hi : P.info? 24 = some i) (hz : i.zero = some z) (hsize : i.size = lyT.s) (hby : i.bytes = 40) (hzs : z.cells.size = lyT.s)
  {v : Value} {B : Nat} {L : List Rt} (hs : a.eval s = v) (hv : FullT w B v L) (b m : Nat) (M : List Rt) (hm : M.length = m) (h0 : 0 < m) (hx : a.eval x = .slice (some ⟨b, 0, none⟩) m m) (hw : Wh 24 w b (lyT.all M)) (hlen : L.length + m ≤ 3518437208800) (hB : B ≤ w.heap.size)
  (h : ∀ v' w', OwnR lyT 24 w' B v' (L ++ M) → KpT m w w' → Below B w w' → K (a.put o.dst v') w') : Oper.wp P o a w K Q := by
 have hX : RowAt lyT w (some ⟨b, 0, none⟩) M := fun _ => ⟨b, 0, rfl, hw.lt, hw.range⟩
 have grow : ∀ (g cap : Nat), v = .slice (some ⟨g, 0, none⟩) L.length cap → RowAt lyT w (some ⟨g, 0, none⟩) L → cap < L.length + m → Oper.wp P o a w K Q := fun g cap e hr hf => by
  subst e
  refine wp_app_growB (R := lyT) s x t ho i z ht hi hz hsize hby hzs g 0 cap L hs hr (some ⟨b, 0, none⟩) m m M hm hx hX h0 hf hlen ?_
  intro v' w' h1 h2
  have h3 : Below w.heap.size w w' := (Below.refl _ _).grown h2.out (Nat.le_refl _) (fun k hk => by cases hk)
  exact h _ _ (h1.out.low hB) (KpT.of h3) (h3.mono hB)
 obtain ⟨hown, hnil⟩ := hv
 rcases hown.2 with ⟨e9, h9⟩ | ⟨g, cap, cur, e9, hbg, hg, hn, hcap, hcs, hcur⟩
 ·obtain ⟨b1, e1⟩ := hnil (List.eq_nil_of_length_eq_zero h9)
  rw [e1] at e9; cases e9
 by_cases hf : cap < L.length + m
 ·obtain ⟨A9, c9, e8, hr9, -⟩ := hown.reads
  rw [e9] at e8
  injection e8 with e8 _ _
  rw [← e8] at hr9
  exact grow g cap e9 hr9 hf
 ·have hL : 0 < L.length := by
   rcases Nat.eq_zero_or_pos L.length with h1 | h1
   ·obtain ⟨b1, e1⟩ := hnil (List.eq_nil_of_length_eq_zero h1)
    rw [e1] at e9
    injection e9 with _ _ e9
    omega
   ·exact h1
  refine wp_app_rowB (R := lyT) s x t ho i z ht hi hz hsize hby hzs hs hown (some ⟨b, 0, none⟩) m m M hm hx hX hlen hB ?_
  intro v' w' h1 h2 _
  refine h _ _ h1.out ⟨h2.out.size, fun b' cs e' hb' hc => ?_⟩ ((Below.refl _ _).grown h2.out hB (fun k hk => by rw [e9] at hk; cases hk; exact hbg))
  refine h2.out.block b' ?_ fun he => ?_
  ·rcases Nat.lt_or_ge b' w.heap.size with h3 | h3
   ·exact h3
   ·rw [Array.getElem?_eq_none h3] at hb'; cases hb'
  ·rw [e9] at he
   cases he
   rw [hg] at hb'
   injection hb' with hb'
   injection hb' with h3 h4
   subst h3 h4
   rcases hc with hc | hc
   ·exact hc rfl
   ·rw [hcs, show lyT.s = 4 from rfl] at hc
    omega
def BoxT (M : List Rt) (v : Value) (w : World) : Prop := ∃ b, v = .slice (some ⟨b, 0, none⟩) M.length M.length ∧ Wh 24 w b (lyT.all M)
def boxF (M : List Rt) : AK.Fact (KpT M.length) := ⟨BoxT M, fun _ _ _ hb ⟨b, h1, h2⟩ => ⟨b, h1, hb.wh h2 (by rw [lyT.all_len, show lyT.s = 4 from rfl]; omega)⟩⟩
def rhJ (w0 : World) (L Lq : List Rt) : Nat → List Value → World → Prop
 | 0, _, W => Below w0.heap.size w0 W
 | 1, l, W => Below w0.heap.size w0 W ∧ ∀ v, l = [v] → FullT W w0.heap.size v L
 | _ + 2, l, W => Below w0.heap.size w0 W ∧ ∀ v, l = [v] → OwnR lyT 24 W w0.heap.size v Lq
theorem rhJ.st (w0 : World) (L Lq : List Rt) : ∀ k l W W', Below W.heap.size W W' → rhJ w0 L Lq k l W → rhJ w0 L Lq k l W'
 | 0, _, _, _, hb, h => Below.trans h (hb.mono (Below.size h))
 | 1, _, _, _, hb, h => ⟨h.1.trans (hb.mono h.1.size), fun v hv => (h.2 v hv).up hb⟩
 | _ + 2, _, _, _, hb, h => ⟨h.1.trans (hb.mono h.1.size), fun v hv => (h.2 v hv).up hb⟩
theorem rhJ.low {w0 W : World} {L Lq : List Rt} {k : Nat} {l : List Value} (h : rhJ w0 L Lq k l W) : Below w0.heap.size w0 W := by
 match k with
 | 0 => exact h
 | 1 => exact h.1
 | _ + 2 => exact h.1
def fewT (g : ByteArray) (L : List Rt) : Bool := L.all (fun r => decide (r.1.1.size ≤ 20)) && (decide (g.size ≤ 20) && decide (L.length ≤ 200))
theorem fewT_len {g : ByteArray} {L : List Rt} (h : fewT g L = true) : L.length ≤ 200 := by
 unfold fewT at h
 simp only [Bool.and_eq_true, decide_eq_true_eq] at h
 exact h.2.2
theorem fewT_pre {g : ByteArray} {L M : List Rt} (h : fewT g (L ++ M) = true) : L.length ≤ 200 := by
 have h1 := fewT_len h
 rw [List.length_append] at h1
 omega
theorem rt_cur {w : World} {A : Option Addr} {L : List Rt} {i : Nat} {r : Rt} (h : RowAt lyT w A L) (hi : L[i]? = some r) : ∃ bb off, A = some ⟨bb, off, none⟩ ∧ bb < w.heap.size ∧ w.cell? ⟨bb, off + i * 4, none⟩ = some (.string r.1.1) := by
 obtain ⟨bb, off, hA, hbl, hrg⟩ := h.at hi
 exact ⟨bb, off, hA, hbl, hrg 0 _ rfl⟩
set_option maxHeartbeats 1600000 in
theorem few16_any (g : ByteArray) (A : Option Addr) (cp : Nat) (L : List Rt) (w : World) (hz : RowAt lyT w A L) (hl : L.length ≤ 9223372036854775807) : Calls Try.prog 12 #[.string g, .slice A L.length cp] w fun e w' => e = .returned (.bool (fewT g L)) ∧ w = w' := by
 have HZ := Lib.hid hz
 obtain ⟨n, hn⟩ : ∃ n, L.length = n := ⟨_, rfl⟩
 have HN := Lib.hid hn
 rw [hn] at hl ⊢
 clear hz hn
 go_enter Try.func12, Try.ntmps12
 go_wp2_with fail
 go_loopg [5] n (fun kx s5 wr => ∃ i : Nat, s5 = .int .i64 (i : Int) ∧ i ≤ n ∧ n - i ≤ kx ∧ w = wr ∧ Hid ((L.take i).all (fun r => decide (r.1.1.size ≤ 20)) = true))
 case atStart => exact ⟨0, rfl, by omega, by omega, rfl, Lib.hid rfl⟩
 case round =>
  obtain ⟨i, rfl, hi, hix, rfl, HD⟩ := hrel
  by_cases hlt : i < n
  ·have hltz : (i : Int) < (n : Int) := by omega
   obtain ⟨r, hr⟩ : ∃ r, L[i]? = some r := ⟨_, List.getElem?_eq_getElem (by rw [HN.out]; exact hlt)⟩
   obtain ⟨bb, off, hA, -, hc⟩ := rt_cur HZ.out hr
   subst hA
   have HM := Lib.hid (List.mem_of_getElem? hr)
   have HTK : Hid (L.take (i + 1) = L.take i ++ [r]) := Lib.hid (by rw [List.take_add_one, hr]; rfl)
   clear hr
   obtain ⟨c, hcc⟩ : ∃ c, r.1.1 = c := ⟨_, rfl⟩
   have HCC := Lib.hid hcc
   rw [hcc] at hc
   clear hcc
   by_cases h20 : c.size ≤ 20
   ·have e1 : decide (20 < (c.size : Int)) = false := decide_eq_false (by omega)
    have HD2 : Hid ((L.take (i + 1)).all (fun r => decide (r.1.1.size ≤ 20)) = true) := Lib.hid (by
     rw [HTK.out, List.all_append, HD.out]
     simp [HCC.out, h20])
    clear h20
    go_wp2_with fail
    go_roundg (n - (i + 1))
    case measure => omega
    case rel => exact ⟨i + 1, by go_num, by omega, by omega, rfl, HD2⟩
   ·have e1 : decide (20 < (c.size : Int)) = true := decide_eq_true (by omega)
    have hF : Hid (fewT g L = false) := Lib.hid (by
     unfold fewT
     have : L.all (fun r => decide (r.1.1.size ≤ 20)) = false := by
      rw [List.all_eq_false]
      exact ⟨r, HM.out, by rw [HCC.out]; simpa using h20⟩
     rw [this]; rfl)
    clear h20
    go_wp2_with fail
    go_ret
    exact ⟨by rw [hF.out]; rfl, rfl⟩
  ·obtain rfl : i = n := by omega
   have hltz : ¬ (i : Int) < (i : Int) := by omega
   have hV : Hid (fewT g L = (decide (g.size ≤ 20) && decide (i ≤ 200))) := Lib.hid (by
    have h1 := HD.out
    rw [List.take_of_length_le (by rw [HN.out]; exact Nat.le_refl _)] at h1
    unfold fewT
    rw [h1, HN.out]; rfl)
   by_cases h1 : g.size ≤ 20
   ·have e1 : decide ((g.size : Int) ≤ 20) = true := decide_eq_true (by omega)
    have E1 := Lib.hid (decide_eq_true h1)
    by_cases h2 : i ≤ 200
    ·have e2 : decide ((i : Int) ≤ 200) = true := decide_eq_true (by omega)
     have E2 := Lib.hid (decide_eq_true h2)
     clear h1 h2
     go_wp2_with fail
     go_ret
     exact ⟨by rw [hV.out, E1.out, E2.out]; rfl, rfl⟩
    ·have e2 : decide ((i : Int) ≤ 200) = false := decide_eq_false (by omega)
     have E2 := Lib.hid (decide_eq_false h2)
     clear h1 h2
     go_wp2_with fail
     go_ret
     exact ⟨by rw [hV.out, E1.out, E2.out]; rfl, rfl⟩
   ·have e1 : decide ((g.size : Int) ≤ 20) = false := decide_eq_false (by omega)
    have E1 := Lib.hid (decide_eq_false h1)
    clear h1
    go_wp2_with fail
    go_ret
    exact ⟨by rw [hV.out, E1.out]; rfl, rfl⟩
structure Moved (w w' : World) (j : TD) (n : Nat) (k : TD) (m : Nat) : Prop where
 b : k.b = j.b
 m_ : k.m = j.m
 g : k.g = j.g
 only : Only (j.own n) w w'
 far : ∀ x, hisS k m x → hisS j n x ∨ w.heap.size ≤ x
theorem Moved.refl {w w' : World} {j : TD} {n : Nat} (h : Below w.heap.size w w') : Moved w w' j n j n := ⟨rfl, rfl, rfl, Only.of h, fun _ h => .inl h⟩
theorem Moved.own {w w' : World} {j k : TD} {n m : Nat} (h : Moved w w' j n k m) {x : Nat} (hx : k.own m x) : j.own n x ∨ w.heap.size ≤ x := by
 rcases hx with rfl | rfl | hx
 ·exact .inl (.inl h.b)
 ·exact .inl (.inr (.inl h.m_))
 ·rcases h.far x hx with h1 | h1
  ·exact .inl (.inr (.inr h1))
  ·exact .inr h1
theorem Moved.trans {w w1 w2 : World} {j k l : TD} {n m p : Nat} (h : Moved w w1 j n k m) (h2 : Moved w1 w2 k m l p) : Moved w w2 j n l p := by
 refine ⟨h2.b.trans h.b, h2.m_.trans h.m_, h2.g.trans h.g, ⟨h2.only.os.trans h.only.os, h2.only.tape.trans h.only.tape, h2.only.output.trans h.only.output, Nat.le_trans h.only.size h2.only.size, fun x hx hn => ?_⟩, fun x hx => ?_⟩
 ·have h3 : ¬ k.own m x := fun h4 => by
   rcases h.own h4 with h5 | h5
   ·exact hn h5
   ·omega
  exact (h2.only.blk x (Nat.lt_of_lt_of_le hx h.only.size) h3).trans (h.only.blk x hx hn)
 ·rcases h2.far x hx with h3 | h3
  ·exact h.far x h3
  ·exact .inr (Nat.le_trans h.only.size h3)
theorem Moved.below {w w' : World} {j k : TD} {n m B : Nat} (h : Moved w w' j n k m) (hj : ∀ x, j.own n x → B ≤ x) (hB : B ≤ w.heap.size) : Below B w w' := h.only.below hj hB
def SetG (w : World) (B : Nat) (j : TD) (H G : List Rt) (w' : World) : Prop := ∃ k, TK w' B k G ∧ Moved w w' j H.length k G.length
theorem PutQ.moved {w w' : World} {B : Nat} {j : TD} {H G : List Rt} (h : PutQ w B j H G w') : SetG w B j H G w' := by
 obtain ⟨A, c, h1, h2, h3⟩ := h
 exact ⟨j.to A c, h1, rfl, rfl, rfl, h2, h3⟩
open Go.RowKit Go.Maps Go.Sort Go.Shelf
def rtCelK (k : RK) : List Value := [.string k.1, .int .i64 k.2.1, .int .i64 k.2.2]
theorem rtCells_new (w : World) (t : TypeId) (a b c : Value) : ∀ (j : Nat) (u : Value), [a, b, c][j]? = some u → (w.alloc (.cells #[a, b, c] t)).cell? ((⟨w.heap.size, 0, none⟩ : Addr).add j) = some u := by
 intro j u hj
 match j, hj with
 | 0, hj =>
  simp at hj; subst hj
  unfold World.cell? Addr.add
  rw [if_pos rfl]
  dsimp only
  rw [heap_alloc_new]
  rfl
 | 1, hj =>
  simp at hj; subst hj
  unfold World.cell? Addr.add
  rw [if_neg (by decide)]
  dsimp only
  rw [heap_alloc_new]
  rfl
 | 2, hj =>
  simp at hj; subst hj
  unfold World.cell? Addr.add
  rw [if_neg (by decide)]
  dsimp only
  rw [heap_alloc_new]
  rfl
 | j + 3, hj => simp at hj
theorem rtInfoK : (Try.prog.info? 53).map (fun i => (i.zero, i.size, i.bytes)) = some (some (.agg #[.string ⟨#[]⟩, .int .i64 0, .int .i64 0]), 3, 32) := by kernel_rfl
def rtCollK (D0 : DataW Value) (left : Lit → Bool) (ss : List (RK)) : Prop := ss.Nodup ∧ ∀ k, k ∈ ss ↔ okR k ∧ Maps.has D0 (rlit k) = true ∧ left (rlit k) = false
section
variable {D0 : DataW Value} {left : Lit → Bool} {ss : List (RK)}
theorem rtCollK.start (D0 : DataW Value) : rtCollK D0 (Maps.has D0) [] := ⟨List.nodup_nil, fun k => by cases Maps.has D0 (rlit k) <;> simp⟩
theorem rtCollK.step (h : rtCollK D0 left ss) {x : RK} (hx : okR x) {y : DataW Value} (hlk : left (rlit x) = true) (hat : ∀ zd, D0.atKey (rlit x) zd = y) : rtCollK D0 (fun z => left z && !z.sameKey (rlit x)) (ss ++ [x]) := by
 have hhas : Maps.has D0 (rlit x) = true := has_true_of_atKey hat
 have hno : x ∉ ss := fun hm => by
  have := ((h.2 x).1 hm).2.2
  rw [hlk] at this; cases this
 refine ⟨List.nodup_append.2 ⟨h.1, by simp, fun a ha b hb e => ?_⟩, fun q => ?_⟩
 ·rw [List.mem_singleton] at hb
  subst hb; subst e; exact hno ha
 ·rw [List.mem_append, List.mem_singleton, h.2 q]
  by_cases hq : q = x
  ·subst hq
   have : (rlit q).sameKey (rlit q) = true := WideAt.sameKey_self (rk_keyed.key (rk_key hx))
   simp [this, hhas, hx]
  ·constructor
   ·rintro (⟨h1, h2, h3⟩ | rfl)
    ·exact ⟨h1, h2, by simp [h3]⟩
    ·exact absurd rfl hq
   ·rintro ⟨h1, h2, h3⟩
    have hne : (rlit q).sameKey (rlit x) = false := by
     cases hs : (rlit q).sameKey (rlit x)
     ·rfl
     ·exact absurd (rk_inj h1 hx (WideAt.sameKey_eq hs)) hq
    simp only [hne] at h3
    exact .inl ⟨h1, h2, by simpa using h3⟩
end
set_option maxRecDepth 100000 in
set_option maxHeartbeats 1600000 in
theorem rtKeys1_in (n : Nat) (hn : 1 ≤ n) (l Bm b nn : Nat) (D0 : DataW Value) (J : List (RK) → World → Prop)
  (hY : ∀ pre x W, J pre W → pre.length < Maps.size D0 → YieldAt Fence.wide (n - 1) Try.prog l #[keyV x] W fun e W' => e = .returned (.bool true) ∧ J (pre ++ [x]) W' ∧ KeepsWalks W W')
  (W : World) (hJ : AbidesFrom W.heap.size J) (hm : W.cell? ⟨Bm, 0, none⟩ = some (.map (some b))) (hown : W.ownsMap Try.prog 53 heldP b nn D0) (h0 : J [] W) :
  CallsIn Fence.wide n Try.prog 48 #[.func (.yield l) #[] #[], .pointer (some ⟨Bm, 0, none⟩)] W fun e W' => (∃ v, e = .returned v) ∧ ∃ ss : List (RK), rtCollK D0 (fun _ => false) ss ∧ J ss W' := by
 refine callsIn_of_wp Try.func48 rfl trivial ?_ rfl
 simp only [Try.ntmps48, List.size_toArray, List.length_cons, List.length_nil, Nat.reduceAdd, Nat.reduceSub, Array.replicate_succ, Array.replicate_zero, List.push_toArray, List.append_toArray, List.nil_append, List.cons_append]
 gi_wp2_with (first
  | (gi_at_range; refine wpListIn_range_own _ rfl _ 57 rfl 53 3 rk_keyed Try.underlying57 _ b nn _ rfl hown ?_; intro w0 hrg0 hg0 hs0)
  | gi_in)
 go_frame
 gi_loopw [3] (fun _ wr => ∃ (left : Lit → Bool) (cnt : Nat) (ss : List (RK)), wr.ranges Try.prog 53 heldP b W.heap.size nn D0 left cnt ∧ ss.length + cnt ≤ Maps.size D0 ∧ rtCollK D0 left ss ∧ J ss wr ∧ W.heap.size ≤ wr.heap.size)
  (fun _ wr => wr.rangeLeft b W.heap.size)
 case atStart =>
  exact ⟨_, _, [], hrg0, by simp, rtCollK.start D0, hJ [] W w0 none h0 hg0 (fun r e => by cases e), by omega⟩
 case round =>
  obtain ⟨left, cnt, ss, hrg, hcs, hC, hJs, hsz⟩ := hrel
  gi_wp2_with (first
   | (gi_at_next; refine wpListIn_next_ranges _ rfl _ rfl 53 rk_keyed heldP keyV id (fun key kl hk => by obtain ⟨x, hx, _⟩ := rk_of_key hk; exact ⟨x, hx⟩) (fun v _ _ => ⟨v, rfl⟩) b W.heap.size nn _ _ _ rfl hrg ?_ ?_)
   | gi_in)
  ·intro hc0 hl0
   gi_wp2
   go_end0
   obtain rfl : left = fun _ => false := funext hl0
   exact ⟨⟨_, rfl⟩, ss, hC, hJs⟩
  ·intro x1 x2 x3 c kl yd yp w2 cnt2 hkey hlk hv hv2 hat hrg2 hlt hg2 hs2 hen
   obtain ⟨x', ex, rfl, hok⟩ := rk_of_key hkey
   obtain ⟨y1, y2, y3⟩ := x'
   obtain ⟨rfl, rfl, rfl⟩ : x1 = y1 ∧ x2 = y2 ∧ x3 = y3 := by simpa [keyV] using ex
   have hJ2 : J ss w2 := hJ ss wr w2 (some W.heap.size) hJs hg2 (fun r e => by cases e; exact ⟨Nat.le_refl _, hrg.iter_walk⟩)
   obtain ⟨w3, hw3⟩ : ∃ w3, w2.alloc (.cells #[.string x1, .int .i64 x2, .int .i64 x3] 53) = w3 := ⟨_, rfl⟩
   have hJ3 : J ss w3 := hJ ss w2 w3 none hJ2 (by rw [← hw3]; exact World.grownBy_alloc _ _ none) (fun r e => by cases e)
   have hp3 : K3 w3 w2.heap.size (x1, x2, x3) := by rw [← hw3]; exact k3_new w2 _ (x1, x2, x3)
   obtain ⟨d0, d1, d2, -⟩ := hp3
   dsimp only at d0 d1 d2
   have hrg3 := hrg2.of_walks (by rw [← hw3]; exact KeepsWalks.alloc _ _ : KeepsWalks w2 w3)
   have hs3 : w3.heap.size = w2.heap.size + 1 := by rw [← hw3]; simp
   obtain ⟨fn, tmps, assign, body, hy, hR⟩ := hY ss (x1, x2, x3) w3 hJ3 (by omega)
   have HS2 := Lib.hid hs2
   clear hs2
   gi_wp2
   refine hR.mono ?_
   rintro e W3 ⟨rfl, hJ4, hk3⟩
   gi_wp2
   have hrg4 := hrg3.of_walks hk3
   go_roundw
   case rel => exact ⟨_, cnt2, ss ++ [(x1, x2, x3)], hrg4, by simp; omega, hC.step hok hlk hat, hJ4, by have := hk3.size; have := HS2.out; omega⟩
   case measure => rw [hrg4.left_eq, hrg.left_eq]; exact hlt
theorem rtKeys_gives (n : Nat) (hn : 1 ≤ n) (Bm b nn : Nat) (D0 : DataW Value) (w : World) (hBm : Bm < w.heap.size) (hm : w.cell? ⟨Bm, 0, none⟩ = some (.map (some b))) (hown : w.ownsMap Try.prog 53 heldP b nn D0) :
  SeqGives Fence.wide n Try.prog 48 #[.pointer (some ⟨Bm, 0, none⟩)] keyV (fun ss => rtCollK D0 (fun _ => false) ss) (Maps.size D0) w := fun l J W hW hJ hY h0 => by
 have hown' : W.ownsMap Try.prog 53 heldP b nn D0 := by
  have hbl := hown.lt
  obtain ⟨es, clock, hb, Ft, hs, hD⟩ := hown
  exact ⟨es, clock, (hW.block b hbl).trans hb, Ft, hs, hD⟩
 exact rtKeys1_in n hn l Bm b nn D0 J hY W hJ ((hW.cell (p := ⟨Bm, 0, none⟩) hBm).trans hm) hown' h0

/-! What a round of the collecting loop does. -/
def rtEpAssign : Code := .region 2 #[{ dst := some 5, op := .alloc 53, type := 0, pos := "iter.go:51", after := #[], guard := none }, { dst := none, op := .store 53 (.tmp 5) (.tmp 7), type := 0, pos := "iter.go:51", after := #[{ on := 0, ground := .data }, { on := 0, ground := .phase }], guard := none }] false
def rtEpBody : Code := .block 1 (.region 3 #[{ dst := some 8, op := .load 64 (.tmp 2), type := 64, pos := "iter.go:52", after := #[], guard := none }, { dst := some 9, op := .load 53 (.tmp 5), type := 53, pos := "iter.go:52", after := #[], guard := none }, { dst := some 10, op := .buildSlice 64 1 #[(0, .tmp 9)], type := 64, pos := "iter.go:52", after := #[{ on := 1, ground := .data }], guard := none }, { dst := some 11, op := .call { callee := .builtin .append, args := #[.tmp 8, .tmp 10], argTypes := #[64, 64] }, type := 64, pos := "iter.go:52", after := #[{ on := 0, ground := .data }, { on := 2, ground := .data }], guard := none }, { dst := none, op := .store 64 (.tmp 2) (.tmp 11), type := 0, pos := "iter.go:52", after := #[{ on := 3, ground := .data }, { on := 3, ground := .chain }, { on := 0, ground := .phase }, { on := 1, ground := .phase }, { on := 2, ground := .phase }, { on := 3, ground := .phase }], guard := none }] false)
def rtEpRec (fn : FuncId) (sv : Value) (Bs D : Nat) (st : LoopState) (pend : Option Code) : Loop :=
 { state := st, pending := pend, fn, tmps := #[.slice none 0 0, sv, .pointer (some ⟨Bs, 0, none⟩), undef, .slice none 0 0, undef, sv, undef, undef, undef, undef, undef, undef], params := #[7], assign := rtEpAssign, body := rtEpBody, defers := D }
structure rtEpAt (w0 : World) (fn : FuncId) (sv : Value) (Bs l D : Nat) (ss : List (RK)) (W : World) : Prop where
 box : ∃ v, W.heap[Bs]? = some (.cells #[v] 64 (0, 0)) ∧ W.ownsRow w0.heap.size 53 3 v ss.length (ss.flatMap rtCelK)
 L : W.heap[l]? = some (.loop (rtEpRec fn sv Bs D .ready none))
 K : W.heap[D]? = some (.deferred (some []))
 below : Below w0.heap.size w0 W
theorem rtEp_abides (w0 : World) (fn : FuncId) (sv : Value) (Bs l D B : Nat) (hB : w0.heap.size ≤ B) : AbidesFrom B (rtEpAt w0 fn sv Bs l D) := fun s W W' row h hg hrow => by
 have hrow' : ∀ r, row = some r → ∃ o : Obj, W.heap[r]? = some o ∧ o.isWalk = true := fun r e => (hrow r e).2
 obtain ⟨v, hv, hr⟩ := h.box
 exact ⟨⟨v, (grownBy_keeps hg hrow' hv rfl).trans hv, ownsRow_abides_a hr hg hrow'⟩, (grownBy_keeps hg hrow' h.L rfl).trans h.L, (grownBy_keeps hg hrow' h.K rfl).trans h.K,
  h.below.grown hg h.below.size (fun k e => Nat.le_trans hB (hrow k e).1)⟩
set_option maxRecDepth 100000 in
set_option maxHeartbeats 4000000 in
theorem rtEpYield (m : Nat) (w0 : World) (fn : FuncId) (sv : Value) (Bs l D : Nat) (hBl : Bs ≠ l) (hDl : D ≠ l) (hDB : D ≠ Bs) (h0B : w0.heap.size ≤ Bs) (h0l : w0.heap.size ≤ l)
    (N : Nat) (hN : N ≤ 1000000) (ss : List (RK)) (x : RK) (W : World) (h : rtEpAt w0 fn sv Bs l D ss W) (hlen : ss.length < N) :
    YieldAt Fence.wide m Try.prog l #[keyV x] W fun e W' => e = .returned (.bool true) ∧ rtEpAt w0 fn sv Bs l D (ss ++ [x]) W' ∧ KeepsWalks W W' := by
  have hne : ∀ {t : TypeId} {c d : Array Value} {o o' : Nat × Nat}, t ≠ 53 → Obj.cells c t o ≠ Obj.cells d 53 o' := fun ht e => ht (Obj.cells.inj e).2.1
  obtain ⟨i0, hi, hz0, hz1, hz2⟩ := info_parts rtInfoK
  obtain ⟨v, hv, hrow⟩ := h.box
  refine ⟨fn, #[.slice none 0 0, sv, .pointer (some ⟨Bs, 0, none⟩), undef, .slice none 0 0, undef, sv, keyV x, undef, undef, undef, undef, undef], rtEpAssign, rtEpBody, by simpa [rtEpRec] using run_yield (P := Try.prog) (args := #[keyV x]) h.L rfl, roundIn_of_wpIn trivial ?_⟩
  have hl : l < W.heap.size := (Array.getElem?_eq_some_iff.1 h.L).1
  have hBlt0 : Bs < W.heap.size := (Array.getElem?_eq_some_iff.1 hv).1
  have hDlt0 : D < W.heap.size := (Array.getElem?_eq_some_iff.1 h.K).1
  obtain ⟨B1, hB1⟩ : ∃ B1, W.heap.size = B1 := ⟨_, rfl⟩
  obtain ⟨W2, hW2⟩ : ∃ W2, W.alloc (.cells #[.string x.1, .int .i64 x.2.1, .int .i64 x.2.2] 53) = W2 := ⟨_, rfl⟩
  have hv2 : W2.heap[Bs]? = some (.cells #[v] 64 (0, 0)) := by rw [← hW2]; exact (Below.heap_alloc _ _ Bs hBlt0).trans hv
  have hK2 : W2.heap[D]? = some (.deferred (some [])) := by rw [← hW2]; exact (Below.heap_alloc _ _ D hDlt0).trans h.K
  have hL2 : W2.heap[l]? = some (.loop (rtEpRec fn sv Bs D .ready none)) := by rw [← hW2]; exact (Below.heap_alloc _ _ l hl).trans h.L
  have hrow2 : W2.ownsRow w0.heap.size 53 3 v ss.length (ss.flatMap rtCelK) := by rw [← hW2]; exact World.ownsRow.alloc hrow _
  have hb2 : Below w0.heap.size w0 W2 := by rw [← hW2]; exact h.below.alloc h.below.size _
  have hk2 : KeepsWalks W W2 := by rw [← hW2]; exact KeepsWalks.alloc _ _
  obtain ⟨d0, d1, d2, hBn⟩ : K3 W2 B1 x := by rw [← hW2, ← hB1]; exact k3_new W _ x
  have hl2 : l < W2.heap.size := (Array.getElem?_eq_some_iff.1 hL2).1
  have hlB : l ≠ B1 := by omega
  have hbr := run_beginRound (P := Try.prog) hL2 rfl
  obtain ⟨W3, hW3⟩ : ∃ W3, W2.putObj l (.loop { rtEpRec fn sv Bs D .ready none with state := .busy }) = W3 := ⟨_, rfl⟩
  rw [hW3] at hbr
  have hg3 : W2.grownBy W3 (some l) := by rw [← hW3]; exact grownBy_putObj_a _ _ _
  have hv3 : W3.heap[Bs]? = some (.cells #[v] 64 (0, 0)) := by rw [← hW3]; exact (World.putObj_heap_other hBl).trans hv2
  have hK3 : W3.heap[D]? = some (.deferred (some [])) := by rw [← hW3]; exact (World.putObj_heap_other hDl).trans hK2
  have hL3 : W3.heap[l]? = some (.loop { rtEpRec fn sv Bs D .ready none with state := .busy }) := by rw [← hW3]; exact World.putObj_heap_same hl2
  have hrow3 : W3.ownsRow w0.heap.size 53 3 v ss.length (ss.flatMap rtCelK) := hrow2.kept hg3 (ownsRow_ne_a hrow2 hL2 (fun cur e => by cases e))
  have hb3 : Below w0.heap.size w0 W3 := hb2.grown hg3 hb2.size (fun k e => by cases e; exact h0l)
  have hk3 : KeepsWalks W W3 := by rw [← hW3]; exact hk2.trans (KeepsWalks.putObj _ hL2 rfl)
  replace d0 : W3.cell? ⟨B1, 0, none⟩ = some (.string x.1) := by rw [← d0]; exact World.cell?_of_block (hg3.block B1 hBn (fun e => hlB (by cases e; rfl)))
  replace d1 : W3.cell? ⟨B1, 1, none⟩ = some (.int .i64 x.2.1) := by rw [← d1]; exact World.cell?_of_block (hg3.block B1 hBn (fun e => hlB (by cases e; rfl)))
  replace d2 : W3.cell? ⟨B1, 2, none⟩ = some (.int .i64 x.2.2) := by rw [← d2]; exact World.cell?_of_block (hg3.block B1 hBn (fun e => hlB (by cases e; rfl)))
  have hBlt : Bs < W3.heap.size := (Array.getElem?_eq_some_iff.1 hv3).1
  have hl3 : l < W3.heap.size := (Array.getElem?_eq_some_iff.1 hL3).1
  have hDlt : D < W3.heap.size := (Array.getElem?_eq_some_iff.1 hK3).1
  obtain ⟨hc3, hf3⟩ := cell_of_box_a hv3
  have ne_of : ∀ {j : Nat} {o : Obj}, W3.heap[j]? = some o → (∀ cur, o ≠ .cells cur 53 (0, 0)) → some j ≠ v.ownBlock := fun hj hno => by
    rcases ownsRow_ne_a hrow3 hj hno with e | e
    · rw [e]; simp
    · exact fun e' => e e'.symm
  clear hv2 hK2 hL2 hrow2 hb2 hk2 hg3 hW3
  unfold rtEpAssign
  gi_wp2_with gi_round_op_a
  unfold rtEpBody
  gi_wp2_with (first
    | (gi_at_builtin; refine wpListIn_append_own _ rfl _ _ 64 rfl w0.heap.size 53 i0 (.agg #[.string ⟨#[]⟩, .int .i64 0, .int .i64 0]) 3 32 Try.underlying64 hi hz0 hz1 hz2 rfl (by decide) _ _ _ rfl (World.ownsRow.alloc hrow3 _) ⟨W3.heap.size, 0, none⟩ 1 1 [.string x.1, .int .i64 x.2.1, .int .i64 x.2.2] rfl rfl (rtCells_new _ _ _ _ _) (by simp [Value.oneCell']) (by unfold maxLen; omega) (by omega) (by have := hb3.size; simp; omega) ?_; intro v' w5 hown' hg5 hnil5
       have hv5 : w5.heap[Bs]? = some (.cells #[v] 64 (0, 0)) := (hg5.block Bs (by simp; omega) (ne_of hv3 (fun cur => hne (by decide)))).trans ((Below.heap_alloc _ _ Bs hBlt).trans hv3)
       obtain ⟨hc5, hf5⟩ := cell_of_box_a hv5
       obtain ⟨g', cap', cur', rfl, hbase', hgb', hr1, hr2, hr3, hr4⟩ : ∃ g' cap' cur', v' = .slice (some ⟨g', 0, none⟩) (ss.length + 1) cap' ∧ w0.heap.size ≤ g' ∧ w5.heap[g']? = some (.cells cur' 53 (0, 0)) ∧ ss.length + 1 ≤ cap' ∧ cap' ≤ maxLen ∧ cur'.size = cap' * 3 ∧ cur'.toList.take ((ss.length + 1) * 3) = ss.flatMap rtCelK ++ [.string x.1, .int .i64 x.2.1, .int .i64 x.2.2] := by
         rcases hown'.2 with ⟨_, h0⟩ | h'
         · exact absurd h0 (by omega)
         · exact h'
       go_frame)
    | gi_round_op_a)
  have hg5' : (W3.alloc (.cells #[.string x.1, .int .i64 x.2.1, .int .i64 x.2.2] 53)).grownBy w5 v.ownBlock := hg5
  have hL5 : w5.heap[l]? = some (.loop { rtEpRec fn sv Bs D .ready none with state := .busy }) := (hg5'.block l (by simp; omega) (ne_of hL3 (fun cur e => by cases e))).trans ((Below.heap_alloc _ _ l hl3).trans hL3)
  have hK5 : w5.heap[D]? = some (.deferred (some [])) := (hg5'.block D (by simp; omega) (ne_of hK3 (fun cur e => by cases e))).trans ((Below.heap_alloc _ _ D hDlt).trans hK3)
  obtain ⟨w4, hw4⟩ : ∃ w4, w5.setCell ⟨Bs, 0, none⟩ (.slice (some ⟨g', 0, none⟩) (ss.length + 1) cap') = w4 := ⟨_, rfl⟩
  rw [hw4]
  have hg4 : w5.grownBy w4 (some Bs) := by rw [← hw4]; exact grownBy_setCell0_a _ _ _
  have hv4 : w4.heap[Bs]? = some (.cells #[.slice (some ⟨g', 0, none⟩) (ss.length + 1) cap'] 64 (0, 0)) := by rw [← hw4]; exact heap_setCell_box_a _ hv5
  have hL4 : w4.heap[l]? = some (.loop { rtEpRec fn sv Bs D .ready none with state := .busy }) := (hg4.block l (Array.getElem?_eq_some_iff.1 hL5).1 (fun e => hBl (by cases e; rfl))).trans hL5
  have hK4 : w4.heap[D]? = some (.deferred (some [])) := (hg4.block D (Array.getElem?_eq_some_iff.1 hK5).1 (fun e => hDB (by cases e; rfl))).trans hK5
  have hrow4 := hown'.kept hg4 (ownsRow_ne_a hown' hv5 (fun cur => hne (by decide)))
  have hl4 : l < w4.heap.size := (Array.getElem?_eq_some_iff.1 hL4).1
  have hb5 : Below w0.heap.size w0 w5 := (hb3.alloc hb3.size _).grown hg5' (by have := hb3.size; simp; omega) (fun k e => (World.ownsRow.lt hrow3 k e).1)
  have hb4 : Below w0.heap.size w0 w4 := hb5.grown hg4 hb5.size (fun k e => by cases e; exact h0B)
  have hk4 : KeepsWalks W w4 := ((hk3.trans (KeepsWalks.alloc _ _)).trans (KeepsWalks.of_grownBy hg5' (ownsRow_not_walk_a (World.ownsRow.alloc hrow3 _)))).trans (by rw [← hw4]; exact KeepsWalks.setCell _ _ _)
  clear hw4
  refine ⟨_, _, run_endRound none hL4, rfl, ⟨⟨_, (World.putObj_heap_other hBl).trans hv4, ?_⟩, World.putObj_heap_same hl4, (World.putObj_heap_other hDl).trans hK4, hb4.grown (grownBy_putObj_a _ _ _) hb4.size (fun k e => by cases e; exact h0l)⟩, hk4.trans (KeepsWalks.putObj _ hL4 rfl)⟩
  have := hrow4.kept (grownBy_putObj_a w4 l (.loop { { rtEpRec fn sv Bs D .ready none with state := .busy } with state := if (none : Option Code).isNone then .ready else .done, pending := none })) (ownsRow_ne_a hrow4 hL4 (fun cur e => by cases e))
  rw [List.length_append, List.flatMap_append]
  simpa [rtCelK] using this
end Go.Proofs.Ytihgnnocagfdeaa
namespace Go.Proofs
open Go.Shelf
def Try.sortf47_ren : Go.Shelf.Ren := ⟨fun | 6 => 47 | 15 => 56 | 14 => 55 | 28 => 67 | 29 => 68 | 20 => 59 | 21 => 60 | 22 => 61 | 23 => 62 | 24 => 63 | 25 => 64 | 26 => 65 | 27 => 66 | 46 => 69 | 47 => 70 | 48 => 71 | 49 => 72 | 50 => 73 | 57 => 74 | n => n, fun | 22 => 64 | 24 => 53 | 25 => 69 | 3 => 3 | 39 => 83 | 0 => 0 | 53 => 93 | 55 => 95 | 4 => 4 | 46 => 87 | 45 => 86 | 50 => 27 | 5 => 5 | 9 => 9 | 66 => 96 | 70 => 100 | 76 => 102 | 77 => 103 | n => n, fun | n => n⟩
theorem Try.sortf47 : Go.Proofs.SlLaysF0.n6 Try.prog Try.sortf47_ren := {
 mixed := by kernel_rfl
 f6 := ⟨Try.f47.name, by decide, Try.func47.trans (congrArg some (by kernel_rfl))⟩
 f14 := ⟨Try.f55.name, by decide, Try.func55.trans (congrArg some (by kernel_rfl))⟩
 f15 := Try.func56.trans (congrArg some (by kernel_rfl))
 f20 := ⟨Try.f59.name, by decide, Try.func59.trans (congrArg some (by kernel_rfl))⟩
 f21 := ⟨Try.f60.name, by decide, Try.func60.trans (congrArg some (by kernel_rfl))⟩
 f22 := ⟨Try.f61.name, by decide, Try.func61.trans (congrArg some (by kernel_rfl))⟩
 f23 := ⟨Try.f62.name, by decide, Try.func62.trans (congrArg some (by kernel_rfl))⟩
 f24 := ⟨Try.f63.name, by decide, Try.func63.trans (congrArg some (by kernel_rfl))⟩
 f25 := ⟨Try.f64.name, by decide, Try.func64.trans (congrArg some (by kernel_rfl))⟩
 f26 := ⟨Try.f65.name, by decide, Try.func65.trans (congrArg some (by kernel_rfl))⟩
 f27 := ⟨Try.f66.name, by decide, Try.func66.trans (congrArg some (by kernel_rfl))⟩
 f28 := Try.func67.trans (congrArg some (by kernel_rfl))
 f29 := Try.func68.trans (congrArg some (by kernel_rfl))
 f46 := ⟨Try.f69.name, by decide, Try.func69.trans (congrArg some (by kernel_rfl))⟩
 f47 := Try.func70.trans (congrArg some (by kernel_rfl))
 f48 := Try.func71.trans (congrArg some (by kernel_rfl))
 f49 := ⟨Try.f72.name, by decide, Try.func72.trans (congrArg some (by kernel_rfl))⟩
 f50 := ⟨Try.f73.name, by decide, Try.func73.trans (congrArg some (by kernel_rfl))⟩
 f57 := ⟨Try.f74.name, by decide, Try.func74.trans (congrArg some (by kernel_rfl))⟩
 t0 := Try.underlying0
 a0 := Try.isAgg0
 z0 := Try.sizeOf0
 v0 := Try.zeroValue0
 t3 := Try.underlying3
 a3 := Try.isAgg3
 z3 := Try.sizeOf3
 v3 := Try.zeroValue3
 t4 := Try.underlying4
 a4 := Try.isAgg4
 z4 := Try.sizeOf4
 v4 := Try.zeroValue4
 t5 := Try.underlying5
 a5 := Try.isAgg5
 z5 := Try.sizeOf5
 v5 := Try.zeroValue5
 t9 := Try.underlying9
 a9 := Try.isAgg9
 z9 := Try.sizeOf9
 v9 := Try.zeroValue9
 t22 := Try.underlying64
 a22 := Try.isAgg64
 z22 := Try.sizeOf64
 v22 := Try.zeroValue64
 t25 := Try.underlying69
 a25 := Try.isAgg69
 z25 := Try.sizeOf69
 v25 := Try.zeroValue69
 t39 := Try.underlying83
 a39 := Try.isAgg83
 z39 := Try.sizeOf83
 v39 := Try.zeroValue83
 t45 := Try.underlying86
 a45 := Try.isAgg86
 z45 := Try.sizeOf86
 v45 := Try.zeroValue86
 t46 := Try.underlying87
 a46 := Try.isAgg87
 z46 := Try.sizeOf87
 v46 := Try.zeroValue87
 t50 := Try.underlying27
 a50 := Try.isAgg27
 z50 := Try.sizeOf27
 v50 := Try.zeroValue27
 t53 := Try.underlying93
 a53 := Try.isAgg93
 z53 := Try.sizeOf93
 v53 := Try.zeroValue93
 t55 := Try.underlying95
 a55 := Try.isAgg95
 z55 := Try.sizeOf95
 v55 := Try.zeroValue95
 t66 := Try.underlying96
 a66 := Try.isAgg96
 z66 := Try.sizeOf96
 v66 := Try.zeroValue96
 t70 := Try.underlying100
 a70 := Try.isAgg100
 z70 := Try.sizeOf100
 v70 := Try.zeroValue100
 t76 := Try.underlying102
 a76 := Try.isAgg102
 z76 := Try.sizeOf102
 v76 := Try.zeroValue102
 t77 := Try.underlying103
 a77 := Try.isAgg103
 z77 := Try.sizeOf103
 v77 := Try.zeroValue103 }
end Go.Proofs
namespace Go.Proofs.Ytihgnnocagfdeaa
open Go.RowKit Go.Maps Go.Sort Go.Shelf
set_option maxRecDepth 100000 in
set_option maxHeartbeats 4000000 in
theorem rtAppendSeq (n : Nat) (hn : 2 ≤ n) (g : Nat) (lb : Array Value) (eg : ∀ args w, (callFunc g args).run Try.prog w = .ok (.enter g args) w)
    (S : List (RK) → Prop) (N : Nat) (hN : N ≤ 1000000) (w : World) (hseq : SeqGives Fence.wide (n - 1) Try.prog g lb keyV S N w) :
    CallsIn Fence.wide n Try.prog 54 #[.slice none 0 0, .func (.func g) #[] lb] w fun e w' => ∃ (v : Value) (ss : List (RK)), e = .returned v ∧ S ss ∧ w'.ownsRow w.heap.size 53 3 v ss.length (ss.flatMap rtCelK) ∧ Below w.heap.size w w' := by
  have h1 : 1 ≤ n := by omega
  refine callsIn_of_wp_marks Try.func54 rfl trivial ?_ rfl
  simp only [Try.ntmps54, List.size_toArray, List.length_cons, List.length_nil, Nat.reduceAdd, Nat.reduceSub, Array.replicate_succ, Array.replicate_zero, List.push_toArray, List.append_toArray, List.nil_append, List.cons_append]
  gi_wp2
  refine wpIn_rangeFunc ?_
  intro fn hfn
  obtain ⟨W0, hW0⟩ : ∃ W0, w.alloc (.cells #[.slice none 0 0] 64) = W0 := ⟨_, rfl⟩
  have hs0 : W0.heap.size = w.heap.size + 1 := by rw [← hW0]; simp
  have hv0 : W0.heap[w.heap.size]? = some (.cells #[.slice none 0 0] 64 (0, 0)) := by rw [← hW0]; exact World.alloc_heap_new w _
  have hb0 : Below w.heap.size w W0 := by rw [← hW0]; exact (Below.refl _ w).alloc (Nat.le_refl _) _
  rw [hW0]
  obtain ⟨W1, hW1⟩ : ∃ W1, (W0.alloc (.deferred (some []))).alloc (.loop (rtEpRec fn (.func (.func g) #[] lb) w.heap.size W0.heap.size .ready none)) = W1 := ⟨_, rfl⟩
  have hold : ∀ k, k < W0.heap.size → W1.heap[k]? = W0.heap[k]? := fun k hk => by
    rw [← hW1]; exact (Below.heap_alloc _ _ k (by simp; omega)).trans (Below.heap_alloc _ _ k hk)
  have hb1 : Below w.heap.size w W1 := by rw [← hW1]; exact (hb0.alloc hb0.size _).alloc (by have := hb0.size; simp; omega) _
  have hs1 : W1.heap.size = W0.heap.size + 2 := by rw [← hW1]; simp
  have hM : rtEpAt w fn (.func (.func g) #[] lb) w.heap.size (W0.heap.size + 1) W0.heap.size [] W1 :=
    ⟨⟨_, (hold w.heap.size (by omega)).trans hv0, ⟨rfl, .inl ⟨rfl, rfl⟩⟩⟩,
     by rw [← hW1]; have := World.alloc_heap_new (W0.alloc (.deferred (some []))) (.loop (rtEpRec fn (.func (.func g) #[] lb) w.heap.size W0.heap.size .ready none)); rwa [World.size_alloc] at this,
     by rw [← hW1]; exact (Below.heap_alloc _ _ _ (by simp)).trans (World.alloc_heap_new W0 _), hb1⟩
  refine ⟨W0.heap.size + 1, [{ target := .collected W0.heap.size, args := #[] }], W1, { target := .fn (.func g) lb, args := #[.func (.yield (W0.heap.size + 1)) #[] #[]] }, W1, g,
    #[.func (.yield (W0.heap.size + 1)) #[] #[]] ++ lb, W1, ?_, ?_, ?_, ?_, fun _ => h1, ?_⟩
  · rw [← hW1]; exact run_enterLoop_outer _ _ _ _ _
  · simp [resolve, go_sem]
  · intro f' hf'; trivial
  · simp [invoke, go_sem, eg]
  · refine (hseq (W0.heap.size + 1) (rtEpAt w fn (.func (.func g) #[] lb) w.heap.size (W0.heap.size + 1) W0.heap.size) W1 hb1 (rtEp_abides _ _ _ _ _ _ _ hb1.size)
      (fun pre x W hJ hl => rtEpYield (n - 1 - 1) w fn _ w.heap.size (W0.heap.size + 1) W0.heap.size (by omega) (by omega) (by omega) (Nat.le_refl _) (by omega) N hN pre x W hJ hl) hM).mono ?_
    rintro e W2 ⟨⟨v0, rfl⟩, ss, hS, h2⟩
    obtain ⟨v, hv, hrow⟩ := h2.box
    have hend := run_endLoop (P := Try.prog) h2.L (by simp [rtEpRec])
    obtain ⟨W3, hW3⟩ : ∃ W3, W2.putObj (W0.heap.size + 1) (.loop { rtEpRec fn (.func (.func g) #[] lb) w.heap.size W0.heap.size .ready none with state := .exhausted }) = W3 := ⟨_, rfl⟩
    rw [hW3] at hend
    have hg3 : W2.grownBy W3 (some (W0.heap.size + 1)) := by rw [← hW3]; exact grownBy_putObj_a _ _ _
    have hv3 : W3.heap[w.heap.size]? = some (.cells #[v] 64 (0, 0)) := by rw [← hW3]; exact (World.putObj_heap_other (by omega)).trans hv
    have hK3 : W3.heap[W0.heap.size]? = some (.deferred (some [])) := by rw [← hW3]; exact (World.putObj_heap_other (by omega)).trans h2.K
    have hrow3 := hrow.kept hg3 (ownsRow_ne_a hrow h2.L (fun cur e => by cases e))
    have hb3 : Below w.heap.size w W3 := h2.below.grown hg3 h2.below.size (fun k e => by cases e; omega)
    obtain ⟨hc3, hf3⟩ := cell_of_box_a hv3
    clear hW3
    refine ⟨none, W3, hend, ?_⟩
    gi_wp2
    rw [← hs0]
    refine ⟨by simp, .inl ⟨_, _, rfl, run_takeDeferred hK3, ?_⟩⟩
    exact ⟨_, results_tmp rfl _ _ _, v, ss, rfl, hS, hrow3.kept (grownBy_putObj_a _ _ _) (ownsRow_ne_a hrow3 hK3 (fun cur e => by cases e)), hb3.grown (grownBy_putObj_a _ _ _) hb3.size (fun k e => by cases e; omega)⟩
set_option maxHeartbeats 1000000 in
theorem rtCollect (n : Nat) (hn : 3 ≤ n) (g : Nat) (lb : Array Value) (eg : ∀ args w, (callFunc g args).run Try.prog w = .ok (.enter g args) w)
  (S : List (RK) → Prop) (N : Nat) (hN : N ≤ 1000000) (w : World) (hseq : SeqGives Fence.wide (n - 1 - 1) Try.prog g lb keyV S N w) :
  CallsIn Fence.wide n Try.prog 46 #[.func (.func g) #[] lb] w fun e w' => ∃ (v : Value) (ss : List (RK)), e = .returned v ∧ S ss ∧ w'.ownsRow w.heap.size 53 3 v ss.length (ss.flatMap rtCelK) ∧ Below w.heap.size w w' := by
 refine callsIn_wide.2 ?_
 have hA := Lib.hid ((callsIn_wide (n := n - 1)).1 (rtAppendSeq (n - 1) (by omega) g lb eg S N hN w hseq))
 clear hseq eg
 go_enter Try.func46, Try.ntmps46
 go_wp2_with (go_at_call 54; refine hA.out.mono ?_; rintro e w' ⟨v, ss, rfl, hS, hrow, hb⟩)
 go_ret
 exact ⟨v, ss, rfl, hS, hrow, hb⟩
def lyK : Lay RK := ⟨rtCelK, 3, fun _ => rfl, fun a v hv => by simp [rtCelK] at hv; rcases hv with rfl | rfl | rfl <;> rfl, by decide⟩
theorem rtHoldsK {w : World} {g : Nat} {cur : Array Value} {e : TypeId} {ss : List RK} (hb : w.heap[g]? = some (.cells cur e (0, 0))) (ht : cur.toList.take (ss.length * 3) = ss.flatMap rtCelK) : HoldsK rtCelK 3 w g 0 ss.toArray := by
 intro j hj
 rw [size_flatK] at hj
 have hj' : j < ss.length * 3 := by simpa using hj
 refine ⟨?_, by simp [World.frozen?, hb]⟩
 rw [get_flatK _ _ _ _ hj, Nat.zero_add]
 have key : w.cell? ⟨g, j, none⟩ = (ss.flatMap rtCelK)[j]? := by
  rw [← ht, List.getElem?_take, if_pos hj']
  simp only [World.cell?, hb]
  simp
 rw [key]
 have hq : j / 3 < ss.length := by omega
 have h1 := lyK.get ss (j / 3) _ (List.getElem?_eq_getElem hq) (j % 3) (Nat.mod_lt _ (by decide))
 rw [show lyK.s = 3 from rfl, show j / 3 * 3 + j % 3 = j by omega] at h1
 have hget : (ss.toArray)[j / 3]! = ss[j / 3] := by simp [hq]
 rw [hget]
 refine (show (ss.flatMap rtCelK)[j]? = (rtCelK ss[j / 3])[j % 3]? from h1).trans ?_
 have h3 : j % 3 = 0 ∨ j % 3 = 1 ∨ j % 3 = 2 := by omega
 rcases h3 with h3 | h3 | h3 <;> rw [h3] <;> rfl
theorem rtRow_of {w : World} {g : Nat} {ss : List RK} (h : HoldsK rtCelK 3 w g 0 ss.toArray) (hg : g < w.heap.size) : RowAt lyK w (some ⟨g, 0, none⟩) ss := fun _ => by
 refine ⟨g, 0, rfl, hg, fun j v hj => ?_⟩
 have hjl : j < ss.length * 3 := by
  have := lyK.all_len ss
  rw [show lyK.s = 3 from rfl] at this
  rw [← this]
  exact (List.getElem?_eq_some_iff.1 hj).1
 have hq : j / 3 < ss.length := by omega
 have hq' : j / 3 < ss.toArray.size := by simpa using hq
 have hget : (ss.toArray)[j / 3]! = ss[j / 3] := by simp [hq]
 have h1 := lyK.get ss (j / 3) _ (List.getElem?_eq_getElem hq) (j % 3) (Nat.mod_lt _ (by decide))
 rw [show lyK.s = 3 from rfl, show j / 3 * 3 + j % 3 = j by omega] at h1
 rw [h1] at hj
 have h3 : j % 3 = 0 ∨ j % 3 = 1 ∨ j % 3 = 2 := by omega
 have c_ : ∀ c, c < 3 → w.cell? ⟨g, 0 + (j / 3 * 3 + c), none⟩ = (rtCelK (ss.toArray)[j / 3]!)[c]? := fun c hc => by
  have h4 := (h.cell hq' (c := c) hc).1
  have h5 : c = 0 ∨ c = 1 ∨ c = 2 := by omega
  rw [Nat.zero_add, show j / 3 * 3 + c = 0 + j / 3 * 3 + c by omega]
  rcases h5 with rfl | rfl | rfl <;> exact h4
 have h6 := c_ (j % 3) (Nat.mod_lt _ (by decide))
 rw [hget, show j / 3 * 3 + j % 3 = j by omega] at h6
 exact h6.trans hj
theorem rtSortK_below {α : Type} [Inhabited α] {enc : α → List Value} {k : Nat} {w : World} {blk off n : Nat} {d : Array α} {os : Array Obj} {B : Nat} (hB : B ≤ blk) (hs : B ≤ w.heap.size) : Below B w (sortWorldK enc k w blk off n d os) := by
 unfold sortWorldK putRowK
 have h1 : Below B w (putRow id (Sort.ahead w n) blk off (flatK enc k d)) := by
  refine ⟨rfl, rfl, rfl, by rw [size_putRow]; exact Nat.le_refl _, fun k hk => ?_⟩
  show (w.heap.modify blk _)[k]? = _
  rw [Array.getElem?_modify, if_neg (by omega)]
 exact h1.trans (Lib.below_grow B _ (by rw [size_putRow]; exact hs) 0 os)
theorem rtCmpLays (blk off size : Nat) (w : World) : CmpLays Try.prog 42 #[] rtCelK 3 cmR blk off size w := fun _ _ _ _ x y => kcmp_any x y _
def AscK3 (K : List RK) : Prop := K.Pairwise ltR
theorem rtSort_asc {ss : List RK} (h : ss.Nodup) : AscK3 (ss.mergeSort fun x y => !ltOf cmR y x) := by
 have hp := List.mergeSort_perm ss fun x y => !ltOf cmR y x
 have h1 := List.pairwise_mergeSort (le := fun x y => !ltOf cmR y x) (fun a b c h1 h2 => by
  simp only [Bool.not_eq_true'] at *
  exact cmR_swo.ntrans _ _ _ h2 h1) (fun a b => by
  cases h1 : ltOf cmR b a
  ·rfl
  ·rw [cmR_swo.asymmA h1]; rfl) ss
 have h2 : (ss.mergeSort fun x y => !ltOf cmR y x).Nodup := hp.nodup_iff.2 h
 refine (List.Pairwise.and h1 h2).imp fun {a b} hab => ?_
 obtain ⟨h3, h4⟩ := hab
 simp only [Bool.not_eq_true'] at h3
 have h7 : ¬ cmR b a < 0 := of_decide_eq_false h3
 have h6 : ¬ ltR b a := h7
 rcases Decidable.em (cmR a b < 0) with h5 | h5
 ·exact h5
 ·exact absurd (ltR_tri h5 h6) h4
set_option maxRecDepth 100000 in
set_option maxHeartbeats 4000000 in
theorem sortedK_any (b n : Nat) (f : RK → Option Int) (w : World) (h : MapR w b n f) (hn : n ≤ 1000000) :
  Calls Try.prog 40 #[.func (.func 48) #[] #[.pointer (some ⟨w.heap.size, 0, none⟩)], .func (.func 42) #[] #[]] (w.alloc (.cells #[.map (some b)] 57)) fun e w' => ∃ (A : Option Addr) (c : Nat) (K : List (RK)), e = .returned (.slice A K.length c) ∧ RowAt lyK w' A K ∧ (∀ g o, A = some ⟨g, o, none⟩ → w.heap.size < g) ∧ AscK3 K ∧ (∀ k, k ∈ K ↔ (f k).isSome = true) ∧ K.length ≤ n ∧ Below w.heap.size w w' := by
 obtain ⟨D, hown, hD, hok⟩ := h
 have hbl := hown.lt
 have hszD : Maps.size D ≤ n := hown.size_le
 have hown1 : (w.alloc (.cells #[.map (some b)] 57)).ownsMap Try.prog 53 heldP b n D := hown.alloc _
 have hseq : SeqGives Fence.wide 2 Try.prog 48 #[.pointer (some ⟨w.heap.size, 0, none⟩)] keyV (fun ss => rtCollK D (fun _ => false) ss) (Maps.size D) (w.alloc (.cells #[.map (some b)] 57)) :=
  rtKeys_gives 2 (by omega) w.heap.size b n D _ (by simp) (by simp) hown1
 have eg := enters_of Try.func48 (by kernel_rfl) rfl
 have ec := enters_of Try.func42 (by kernel_rfl) rfl
 have cC := (callsIn_wide (n := 4)).1 (rtCollect 4 (by omega) _ _ eg _ _ (by omega : Maps.size D ≤ 1000000) _ hseq.bounded)
 have cS0 := fun W => AnyF.slices_SortFunc_none { Try.sortf47 with } none 0 (.func (.func 42) #[] #[]) W
 have cS := fun (blk cap : Nat) (d : Array (RK)) (W : World) (hH : HoldsK rtCelK 3 W blk 0 d) (hb : blk < W.heap.size) (hs : d.size < 4611686018427387904) =>
  AnyQ.slices_SortFunc_total Try.sortf47 3 Try.isAgg53 Try.sizeOf53 rtCelK (fun _ => rfl) (fun x v hv => by simp [rtCelK] at hv; rcases hv with rfl | rfl | rfl <;> rfl) cmR cmR_swo 42 #[] blk 0 cap d W ec (rtCmpLays blk 0 d.size W) hH hb hs cmR_tot
 change ∀ W, Calls Try.prog 47 _ _ _ at cS0
 change ∀ (blk cap : Nat) (d : Array (RK)) (W : World) (hH : HoldsK rtCelK 3 W blk 0 d) (hb : blk < W.heap.size) (hs : d.size < 4611686018427387904), Calls Try.prog 47 _ _ _ at cS
 have HD := Lib.hid hD
 have HOK := Lib.hid hok
 have HC := Lib.hid cC
 have HS0 := Lib.hid cS0
 have HS := Lib.hid cS
 have hB0 := Lib.hid (below_alloc_new (w := w) (.cells #[.map (some b)] 57))
 generalize hw1 : w.alloc (.cells #[.map (some b)] 57) = w1 at *
 have hs1 : w1.heap.size = w.heap.size + 1 := by rw [← hw1]; simp
 have HS1 := Lib.hid hs1
 clear hD hok cC cS0 cS hown hown1 hseq hw1 hs1
 generalize w.heap.size = s0 at *
 go_enter Try.func40, Try.ntmps40
 go_wp2_with (go_at_call 46; refine HC.out.mono ?_; rintro e w2 ⟨v, ss, rfl, ⟨hS, hlen⟩, hrow, hb2⟩)
 have hmem : ∀ k, k ∈ ss ↔ (f k).isSome = true := fun k => by
  rw [hS.2 k]
  constructor
  ·rintro ⟨h1, h2, _⟩
   rw [← (HD.out k h1).1]; exact h2
  ·intro h1
   have h2 := HOK.out k h1
   exact ⟨h2, by rw [(HD.out k h2).1]; exact h1, rfl⟩
 have hle : ss.length ≤ n := Nat.le_trans hlen hszD
 have hB2 : Below s0 w w2 := hB0.out.trans (hb2.mono (by have := HS1.out; omega))
 have HM := Lib.hid hmem
 have HSS := Lib.hid hS
 have HLE := Lib.hid hle
 have HR := Lib.hid hrow
 have HB2 := Lib.hid hB2
 have hs0l : s0 ≤ w2.heap.size := by have := hb2.size; have := HS1.out; omega
 have HSL := Lib.hid hs0l
 have hbase := Lib.hid (show s0 ≤ w1.heap.size by have := HS1.out; omega)
 clear hmem hS hle hB2 hb2 hlen hs0l
 rcases hrow.2 with ⟨rfl, hz⟩ | ⟨gb, cap, cur, rfl, hbg, hgb, r1, r2, r3, r4⟩
 ·obtain rfl : ss = [] := List.eq_nil_of_length_eq_zero hz
  clear hrow
  go_wp2_with (go_at_call 47; refine (HS0.out _).mono ?_; rintro e w3 ⟨rfl, rfl⟩)
  go_ret
  exact ⟨none, 0, [], rfl, fun h => absurd h (by simp), (fun g o h => by cases h), List.Pairwise.nil, HM.out, by simp, HB2.out⟩
 ·have hgl : gb < w2.heap.size := (Array.getElem?_eq_some_iff.1 hgb).1
  have hH := rtHoldsK hgb r4
  have hsz : ss.toArray.size < 4611686018427387904 := by have := HLE.out; simp; omega
  have hlen : (ss.toArray.size : Nat) = ss.length := by simp
  have c1 := HS.out gb cap ss.toArray w2 hH hgl hsz
  rw [hlen] at c1
  have HC1 := Lib.hid c1
  have HH := Lib.hid hH
  have HGL := Lib.hid hgl
  have HBG := Lib.hid hbg
  clear hrow c1 hsz hlen hH r1 r2 r3 r4 hgb hgl hbg
  go_wp2_with (go_at_call 47; refine HC1.out.mono ?_; rintro e w3 ⟨rfl, nn, os, rfl⟩)
  go_ret
  have hlm : (ss.mergeSort fun x y => !ltOf cmR y x).length = ss.length := List.length_mergeSort _
  have hhold : HoldsK rtCelK 3 (sortWorldK rtCelK 3 w2 gb 0 nn (ss.mergeSort fun x y => !ltOf cmR y x).toArray os) gb 0 (ss.mergeSort fun x y => !ltOf cmR y x).toArray := by
   unfold sortWorldK
   refine holdsK_grow rtCelK 3 _ os gb 0 _ (by unfold putRowK; rw [size_putRow]; exact HGL.out) ?_
   exact holdsK_putRowK rtCelK 3 _ gb 0 ss.toArray _ (holdsK_ahead rtCelK 3 w2 nn gb 0 _ HH.out) (by simp)
  have hsb : Below s0 w2 (sortWorldK rtCelK 3 w2 gb 0 nn (ss.mergeSort fun x y => !ltOf cmR y x).toArray os) := rtSortK_below (Nat.le_trans hbase.out HBG.out) HSL.out
  refine ⟨some ⟨gb, 0, none⟩, cap, ss.mergeSort fun x y => !ltOf cmR y x, by rw [hlm]; rfl, rtRow_of hhold (Nat.lt_of_lt_of_le HGL.out ?_), (fun g o h => by cases h; have := HBG.out; have := HS1.out; omega), rtSort_asc HSS.out.1, fun k => ?_, by rw [hlm]; exact HLE.out, HB2.out.trans hsb⟩
  ·unfold sortWorldK putRowK
   have h1 := (Lib.below_grow 0 (putRow id (Sort.ahead w2 nn) gb 0 (flatK rtCelK 3 (ss.mergeSort fun x y => !ltOf cmR y x).toArray)) (Nat.zero_le _) 0 os).size
   rw [size_putRow] at h1
   exact h1
  ·rw [(List.mergeSort_perm ss _).mem_iff]; exact HM.out k
theorem rtkeys_any (b : Nat) (w : World) : Calls Try.prog 41 #[.map (some b)] w fun e w' => e = .returned (.func (.func 48) #[] #[.pointer (some ⟨w.heap.size, 0, none⟩)]) ∧ w' = w.alloc (.cells #[.map (some b)] 57) := by
 go_enter Try.func41, Try.ntmps41
 go_wp2_with fail
 go_ret
 exact ⟨rfl, rfl⟩
def ratesOf (f : RK → Option Int) (K : List RK) : List Rt := K.map fun k => (k, (f k).getD 0)
theorem ratesOf_all {H : List Rt} {K : List RK} (hk : AscK3 K) (hm : ∀ k, k ∈ K ↔ (tbF H k).isSome = true) : ratesOf (tbF H) K = rtL H := by
 refine ascT_ext ?_ (rtL_asc H) fun x => ?_
 ·unfold AscT ratesOf
  rw [List.pairwise_map]
  exact hk
 ·rw [rtL_mem]
  unfold ratesOf
  rw [List.mem_map]
  constructor
  ·rintro ⟨k, h1, rfl⟩
   have h2 := (hm k).1 h1
   dsimp only
   cases h3 : tbF H k with
   | none => rw [h3] at h2; cases h2
   | some v => rfl
  ·intro h1
   refine ⟨x.1, (hm x.1).2 (by rw [h1]; rfl), ?_⟩
   rw [h1]; rfl
theorem step_app_rowT {α : Type} {R : Lay α} {e : TypeId} {base : Nat} {v : Value} {L : List α} {P : Program} {ops : Array Oper} {o : Oper} {a : Act} {tm : Array Value} {w : World} {K : Act → World → Prop} {Q : Exit → Act → World → Prop} {E : Prop} (hgd : o.guard = none) (s x : Operand) (t : TypeId)
  (ho : o.op = .call { callee := .builtin .append, args := #[s, x], argTypes := #[t, t] })
  (i : TypeInfo) (z : Value) (bytes : Nat) (ht : P.underlying t = some (.slice e)) (hi : P.info? e = some i) (hz : i.zero = some z) (hsize : i.size = R.s) (hby : i.bytes = bytes) (hb8 : bytes ≤ 1000) (hzs : z.cells.size = R.s)
  (hs : a.eval s = v) (hown : OwnR R e w base v L) (X : Option Addr) (m c : Nat) (M : List α) (hm : M.length = m) (hx : a.eval x = .slice X m c) (hX : RowAt R w X M)
  (hlen : L.length + m ≤ 100000000) (hbase : base ≤ w.heap.size)
  (h : ∀ v' w', Hid (OwnR R e w' base v' (L ++ M)) → Hid (w.grownBy w' v.ownBlock) → Hid (v'.ownBlock = v.ownBlock ∨ v'.ownBlock = some w.heap.size) → K (a.put o.dst v') w') :
  if Region.wanted o (yielded ops tm) = true then Oper.wp P o a w K Q else E := by
 rw [if_pos (by simp [Region.wanted, hgd])]
 exact wp_app_row s x t ho i z bytes ht hi hz hsize hby hb8 hzs hs hown X m c M hm hx hX hlen hbase h
theorem key_get {w : World} {A : Option Addr} {L : List RK} {i : Nat} {r : RK} (h : RowAt lyK w A L) (hi : L[i]? = some r) : ∃ bb off, A = some ⟨bb, off, none⟩ ∧ bb < w.heap.size ∧ (Instr.loadAt 53 (.pointer (some ⟨bb, off + i * 3, none⟩))).run Try.prog w = .ok (keyV r) w := by
 obtain ⟨bb, off, hA, hbl, hrg⟩ := h.at hi
 refine ⟨bb, off, hA, hbl, ?_⟩
 exact run_loadAt_mid w bb (off + i * 3) 53 (rtCelK r) _ (fun j v hj => hrg j v hj) Try.underlying53 rfl (by kernel_rfl)
structure LiS (w5 wr : World) (s0 : Nat) (v : Value) (L : List Rt) : Prop where
 own : OwnR lyT 24 wr s0 v L
 far : ∀ g, v.ownBlock = some g → g = s0 ∨ w5.heap.size ≤ g
 only : Only (fun k => k = s0 ∨ w5.heap.size ≤ k) w5 wr
theorem LiS.up {w5 wr w' : World} {s0 : Nat} {v : Value} {L : List Rt} (h : LiS w5 wr s0 v L) (hb : Below wr.heap.size wr w') : LiS w5 w' s0 v L := ⟨h.own.up hb, h.far, h.only.trans (Only.of hb)⟩
theorem LiS.step {w5 wr w' : World} {s0 : Nat} {v v' : Value} {L M : List Rt} (h : LiS w5 wr s0 v L) (ho : OwnR lyT 24 w' s0 v' M) (hg : wr.grownBy w' v.ownBlock) (hn : v'.ownBlock = v.ownBlock ∨ v'.ownBlock = some wr.heap.size) : LiS w5 w' s0 v' M := by
 refine ⟨ho, fun g hv => ?_, h.only.trans (Only.grown hg fun k hk => h.far k hk)⟩
 rcases hn with hn | hn
 ·exact h.far g (by rw [← hn]; exact hv)
 ·rw [hn] at hv; injection hv with hv
  exact .inr (by rw [← hv]; exact h.only.size)
set_option maxRecDepth 100000 in
set_option maxHeartbeats 6400000 in
theorem list16_any (j : TD) (H : List Rt) (B : Nat) (w : World) (hj : TK w B j H) (hn : H.length ≤ 900) : Calls Try.prog 28 #[j.p] w fun e w' => RowQ w (rtL H) e w' ∧ Below w.heap.size w w' := by
  obtain ⟨i0, hi, hz1, hz2, hz3⟩ := info_parts infoT
  have c1 := hj.box.at 1 _ rfl
  obtain ⟨q, hq, hlen⟩ := hj.mp.size 3
  have hq9 : q ≤ 900 := by omega
  obtain ⟨s0, hs0⟩ : ∃ s0, w.heap.size = s0 := ⟨_, rfl⟩
  have HS0 := Lib.hid hs0
  have HJ := Lib.hid hj
  have HN := Lib.hid hn
  have HKB := Lib.hid (fun W => rtkeys_any j.m W)
  have hbl : j.b < s0 := by rw [← hs0]; exact hj.box.lt
  have HBL := Lib.hid hbl
  clear hj hn hq
  obtain ⟨w3, hmk, hr3, hg3⟩ := run_make_own (P := Try.prog) w w.heap.size 22 24 i0 _ 4 Try.underlying22 hi hz1 hz2 .i64 .i64 q (by rw [hz3]; omega) (by unfold maxLen; omega) (Nat.le_refl _)
  have HR3 : Hid (OwnR lyT 24 w3 w.heap.size (.slice (some ⟨w.heap.size, 0, none⟩) 0 q) []) := Lib.hid hr3
  have HB3 : Hid (Below w.heap.size w w3) := Lib.hid ((Only.grown (S := fun _ => False) hg3 (fun k hk => by cases hk)).none)
  have c1b := (HB3.out.cell (p := ⟨j.b, 1, none⟩) (show j.b < w.heap.size by have := HBL.out; have := HS0.out; omega)).trans c1
  have HM3 := Lib.hid (HJ.out.mp.up HB3.out)
  have HSK := Lib.hid (sortedK_any j.m H.length (tbF H) w3 HM3.out (by have := HN.out; omega))
  rw [hs0] at hmk
  clear hr3 hg3
  go_enter Try.func28, Try.ntmps28
  go_wp2_with (first
    | (go_at_call 41; refine (HKB.out w3).mono ?_; rintro e w9 ⟨rfl, hw9⟩; subst hw9)
    | (go_at_call 40; refine HSK.out.mono ?_; rintro e w5 ⟨A, c, K, rfl, hK, hA, hasc, hmem, hkl, hb5⟩; have HK := Lib.hid hK; have HA := Lib.hid hA; have HKE := Lib.hid (ratesOf_all hasc hmem); have HMEM := Lib.hid hmem; have HKL := Lib.hid hkl; have HB5 := Lib.hid hb5; clear hK hA hasc hmem hkl hb5))
  obtain ⟨n, hnl⟩ : ∃ n, K.length = n := ⟨_, rfl⟩
  have HNL := Lib.hid hnl
  have hn9 : n ≤ 1000 := by rw [← hnl]; have := HKL.out; have := HN.out; omega
  have HN9 := Lib.hid hn9
  have HSZ3 : Hid (s0 < w3.heap.size) := Lib.hid (by
    have h1 := (HR3.out.lt (g := w.heap.size) rfl).2
    have := HS0.out
    omega)
  have HBB : Hid (Below s0 w w5) := Lib.hid (by
    have h1 := HB3.out.trans (HB5.out.mono HB3.out.size)
    rw [HS0.out] at h1
    exact h1)
  have HS3 : Hid (LiS w5 w5 s0 (.slice (some ⟨s0, 0, none⟩) 0 q) []) := Lib.hid ⟨by have h1 := HR3.out.up HB5.out; rw [HS0.out] at h1; exact h1, fun g hg => .inl (by cases hg; rfl), Only.refl _⟩
  have HTBL : Hid (∀ W, Only (fun k => k = s0 ∨ w5.heap.size ≤ k) w5 W → TK W B j H) := Lib.hid (fun W h => ((HJ.out.up (HB3.out.trans (HB5.out.mono HB3.out.size)))).only h (fun k hk hS => by
    have h1 := (HJ.out.own_lt hk).2
    have h2 := HS0.out
    have h3 := HBB.out.size
    omega))
  rw [hnl]
  clear hnl hlen hq9
  go_loopg [3, 21] n (fun kx s3 s21 wr => ∃ i : Nat, s21 = .int .i64 (i : Int) ∧ i ≤ n ∧ n - i ≤ kx ∧ Hid (LiS w5 wr s0 s3 (ratesOf (tbF H) (K.take i))))
  case atStart => exact ⟨0, rfl, by omega, by omega, HS3⟩
  case round =>
    obtain ⟨i, rfl, hi1, hix, HS⟩ := hrel
    by_cases hlt : i < n
    · have hltz : (i : Int) < (n : Int) := by omega
      obtain ⟨k, hk⟩ : ∃ k, K[i]? = some k := ⟨_, List.getElem?_eq_getElem (by rw [HNL.out]; exact hlt)⟩
      have HKR : Hid (RowAt lyK wr A K) := Lib.hid (HK.out.same fun g o hA9 => HS.out.only.blk g (by
        obtain ⟨bb, off, e, hbl, _⟩ := HK.out (by rw [HNL.out]; omega)
        rw [e] at hA9; cases hA9
        exact hbl) (fun h => by
          have h1 := HA.out g o hA9
          obtain ⟨bb, off, e, hbl, _⟩ := HK.out (by rw [HNL.out]; omega)
          rw [e] at hA9; cases hA9
          have := HSZ3.out
          omega))
      have HOKK : Hid (okR k) := Lib.hid (by
        obtain ⟨D, _, _, h4⟩ := HM3.out
        exact h4 k ((HMEM.out k).1 (List.mem_of_getElem? hk)))
      obtain ⟨bb, off, hA9, hbl9, hld⟩ := key_get HKR.out hk
      subst hA9
      have HTK : Hid (ratesOf (tbF H) (K.take (i + 1)) = ratesOf (tbF H) (K.take i) ++ [(k, (tbF H k).getD 0)]) := Lib.hid (by rw [List.take_add_one, hk]; unfold ratesOf; rw [List.map_append]; rfl)
      have HT := Lib.hid (HTBL.out wr HS.out.only)
      obtain ⟨k1, k2, k3⟩ := k
      obtain ⟨V, hV⟩ : ∃ V, (tbF H (k1, k2, k3)).getD 0 = V := ⟨_, rfl⟩
      rw [hV] at HTK
      have HLD : Hid ((Instr.loadAt 53 (.pointer (some ⟨bb, off + i * 3, none⟩))).run Try.prog wr = .ok (.agg #[.string k1, .int .i64 k2, .int .i64 k3]) wr) := Lib.hid hld
      have HLK : Hid (∀ W, Below wr.heap.size wr W → (Instr.lookup 57 (.map (some j.m)) (keyV (k1, k2, k3)) false).run Try.prog W = .ok (.int .i64 V) W) := Lib.hid (fun W h => by rw [← hV]; exact (HT.out.mp.up h).look HOKK.out)
      obtain ⟨s5, hs5⟩ : ∃ s5, wr.heap.size = s5 := ⟨_, rfl⟩
      obtain ⟨w6, hw6⟩ : ∃ w6, wr.alloc (.cells #[.string k1, .int .i64 k2, .int .i64 k3] 53) = w6 := ⟨_, rfl⟩
      have HX6 : Hid (K3 w6 s5 (k1, k2, k3)) := Lib.hid (by rw [← hw6, ← hs5]; exact k3_new wr _ (k1, k2, k3))
      have HB6 : Hid (Below wr.heap.size wr w6) := Lib.hid (by rw [← hw6]; exact below_alloc_new _)
      have HS6 : Hid (LiS w6 w6 s0 u3 (ratesOf (tbF H) (K.take i)) → True) := Lib.hid (fun _ => trivial)
      have HS9 : Hid (LiS w5 w6.drew s0 u3 (ratesOf (tbF H) (K.take i))) := Lib.hid ((HS.out.up HB6.out).up (dc_drew (Below.refl _ _)))
      have HE0 : Hid (∀ W, Below w6.heap.size w6 W → W.cell? ⟨s5, 0, none⟩ = some (.string k1) ∧ W.cell? ⟨s5, 1, none⟩ = some (.int .i64 k2) ∧ W.cell? ⟨s5, 2, none⟩ = some (.int .i64 k3) ∧ W.cell? ⟨j.b, 1, none⟩ = some (.map (some j.m))) := Lib.hid (fun W h => ⟨(HX6.out.up h).c0, (HX6.out.up h).c1, (HX6.out.up h).c2, ((HT.out.up HB6.out).up h).box.at 1 _ rfl⟩)
      obtain ⟨e0, e1, e2, e3⟩ := HE0.out _ (dc_drew (Below.refl _ _))
      have hlk := HLK.out _ (dc_drew HB6.out)
      have HSZ : Hid (s0 ≤ w6.heap.size) := Lib.hid (by have h1 := HS.out.only.size; have h2 := HB6.out.size; have h3 := HBB.out.size; have h4 := HS0.out; omega)
      have HLN : Hid ((ratesOf (tbF H) (K.take i)).length ≤ 1000) := Lib.hid (by unfold ratesOf; rw [List.length_map, List.length_take]; have := HNL.out; have := HN9.out; omega)
      have HE2 : Hid (∀ o, (w6.drew.alloc o).cell? ⟨s5, 0, none⟩ = some (.string k1) ∧ (w6.drew.alloc o).cell? ⟨s5, 1, none⟩ = some (.int .i64 k2) ∧ (w6.drew.alloc o).cell? ⟨s5, 2, none⟩ = some (.int .i64 k3) ∧ (w6.drew.alloc o).cell? ⟨j.b, 1, none⟩ = some (.map (some j.m))) := Lib.hid (fun o => HE0.out _ ((dc_drew (Below.refl _ _)).alloc (Nat.le_refl _) o))
      have HFS : Hid (some s5 ≠ u3.ownBlock) := Lib.hid (fun e => by have h1 := (HS.out.own.lt e.symm).2; omega)
      have HFB : Hid (some j.b ≠ u3.ownBlock) := Lib.hid (fun e => by have h1 := (HS.out.own.lt e.symm).1; have := HBL.out; omega)
      clear hk hld hV hbl9 HS6
      go_upto_region 7 with (refine wpList_load_is rfl 53 _ rfl _ rfl (.agg #[.string k1, .int .i64 k2, .int .i64 k3]) HLD.out ?_)
      go_region_held_law (fun w' => w'.cell? ⟨s5, 0, none⟩ = some (.string k1) ∧ w'.cell? ⟨s5, 1, none⟩ = some (.int .i64 k2) ∧ w'.cell? ⟨s5, 2, none⟩ = some (.int .i64 k3) ∧ w'.cell? ⟨j.b, 1, none⟩ = some (.map (some j.m))) (first | exact hS7 | exact ⟨e0, e1, e2, e3⟩ | exact HE2.out _ | go_keep)
        (first
          | (refine step_app_rowT (R := lyT) rfl (.tmp 25) (.tmp 39) 22 rfl i0 _ 40 Try.underlying22 hi hz1 hz2 hz3 (by omega) rfl rfl (HS9.out.own.up (below_alloc_new _)) (some ⟨w6.drew.heap.size, 0, none⟩) 1 1 [((k1, k2, k3), V)] rfl rfl (row_one (R := lyT) (x := ((k1, k2, k3), V)) (Wh.new w6.drew 24 (rtC ((k1, k2, k3), V)))) (by have := HLN.out; simp; omega) (by have := HSZ.out; simp; omega) ?_
             intro v7 w7 ho7 hg7 hn7
             have hS7 : w7.cell? ⟨s5, 0, none⟩ = some (.string k1) ∧ w7.cell? ⟨s5, 1, none⟩ = some (.int .i64 k2) ∧ w7.cell? ⟨s5, 2, none⟩ = some (.int .i64 k3) ∧ w7.cell? ⟨j.b, 1, none⟩ = some (.map (some j.m)) := ⟨hg7.out.cell (HE2.out _).1 HFS.out, hg7.out.cell (HE2.out _).2.1 HFS.out, hg7.out.cell (HE2.out _).2.2.1 HFS.out, hg7.out.cell (HE2.out _).2.2.2 HFB.out⟩))
      all_goals
        have HS7 : Hid (LiS w5 w7 s0 v7 (ratesOf (tbF H) (K.take (i + 1)))) := Lib.hid (by rw [HTK.out]; exact (HS9.out.up (below_alloc_new _)).step ho7.out hg7.out hn7.out)
        clear ho7 hg7 hn7 hS7 HS9 e0 e1 e2 e3 HE2 hlk HS
        go_wp2_with fail
        go_roundg (n - (i + 1))
        case measure => omega
        case rel => exact ⟨i + 1, by first | go_num | (have := HN9.out; go_num), by omega, by omega, HS7⟩
    · obtain rfl : i = n := by omega
      have hltz : ¬ (i : Int) < (i : Int) := by omega
      have hT1 : K.take i = K := List.take_of_length_le (by rw [HNL.out]; exact Nat.le_refl _)
      rw [hT1, HKE.out] at HS
      obtain ⟨A1, c1', e1, q1, -⟩ := HS.out.own.reads
      subst e1
      go_wp2_with fail
      go_ret
      exact ⟨⟨A1, c1', rfl, by rw [HS0.out]; exact HS.out.own⟩, by have h9 := HBB.out.trans (HS.out.only.below (fun k hk => by have := HBB.out.size; have := HS0.out; omega) (by have := HBB.out.size; have := HS0.out; omega)); first | exact h9 | (rw [HS0.out]; exact h9)⟩
end Go.Proofs.Ytihgnnocagfdeaa
