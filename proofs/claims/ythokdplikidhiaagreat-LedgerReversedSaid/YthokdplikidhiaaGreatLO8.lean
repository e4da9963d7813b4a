/- Contracts of the functions that the statements reach, part 8: what was proved of each, callees first. -/
import Derived.Lib.SmallJoins
import Derived.Test.YthokdplikidhiaaGreatLO7
namespace Go.Proofs.YthokdplikidhiaaGreat
open Go.RowKit
theorem i64_wrapN {x : Nat} (h : x ≤ 100) : IntKind.i64.wrap (x : Int) = (x : Int) := by
 rw [IntKind.wrap_i64]; omega
def swL (E0 E1 E2 : List Ety) : Nat → List Ety
 | 0 => E0
 | 1 => E1
 | _ + 2 => E2
def swJ (w8 : World) (B mb n cm : Nat) (E0 E1 E2 : List Ety) (k : Nat) (_ : List Value) (W : World) : Prop := OwnR lyX 46 W B (.slice (some ⟨mb, 0, none⟩) n cm) (swL E0 E1 E2 k) ∧ Below B w8 W
theorem swJ.st (w8 : World) (B mb n cm : Nat) (E0 E1 E2 : List Ety) : ∀ k l W W', Below W.heap.size W W' → swJ w8 B mb n cm E0 E1 E2 k l W → swJ w8 B mb n cm E0 E1 E2 k l W' := fun k l W W' hb h => ⟨h.1.up hb, h.2.trans (hb.mono (by
 rcases h.1.2 with ⟨h1, -⟩ | ⟨g, cap, cur, h1, hbg, hg, -⟩
 ·cases h1
 ·have := (Array.getElem?_eq_some_iff.1 hg).1; omega))⟩
theorem sw_low {w8 W : World} {B mb n cm k : Nat} {E0 E1 E2 : List Ety} {l : List Value} (h : swJ w8 B mb n cm E0 E1 E2 k l W) : Below B w8 W := h.2
theorem swJ.s1 {w8 W : World} {B mb n cm k : Nat} {E0 E1 E2 : List Ety} {l l' : List Value} {x y : Ety} (h : swJ w8 B mb n cm E0 E1 E2 0 l W) (hi : E0[k]? = some x) (hm : B ≤ mb) (hE : E0.set k y = E1) : swJ w8 B mb n cm E0 E1 E2 1 l' (W.setCells mb (k * 7) (etyC y)) := by
 subst hE
 exact   ⟨own_put7 h.1 hi y, h.2.trans ((Only.setCells (S := fun b => b = mb) rfl _ _ _).below (fun j hj => by have h1 : j = mb := hj; omega) (by have := (h.1.lt rfl).1; have := (h.1.lt rfl).2; omega))⟩
theorem swJ.s2 {w8 W : World} {B mb n cm k1 : Nat} {E0 E1 E2 : List Ety} {l l' : List Value} {x y : Ety} (h : swJ w8 B mb n cm E0 E1 E2 1 l W) (hi : E1[k1]? = some y) (hm : B ≤ mb) (hE : E1.set k1 x = E2) : swJ w8 B mb n cm E0 E1 E2 2 l' (W.setCells mb (k1 * 7) (etyC x)) := by
 subst hE
 exact   ⟨own_put7 h.1 hi x, h.2.trans ((Only.setCells (S := fun b => b = mb) rfl _ _ _).below (fun j hj => by have h1 : j = mb := hj; omega) (by have := (h.1.lt rfl).1; have := (h.1.lt rfl).2; omega))⟩
theorem jrn_swap {g : Grp} {L : List Acc} {G : List Ent} {P S : List Etl} {p q : Etl} (h : jrnB g L G (P ++ p :: q :: S) = true) (hpq : ¬ (q.1.kind = 3 ∧ q.1.of_ = p.1.id)) : jrnB g L G (P ++ q :: p :: S) = true := by
 obtain ⟨h1, h2⟩ := jrn_grp h
 unfold jrnB
 rw [h1, Bool.true_and]
 exact vld_swap (fun p hp => (ck_ok hp).2.2) h2 hpq
theorem lg_swap {g : Grp} {L : List Acc} {G : List Ent} {P S : List Etl} {p q : Etl} {e hi : Int} (h : lgE g L G (P ++ p :: q :: S) e ≠ 1) (hpq : ¬ (q.1.kind = 3 ∧ q.1.of_ = p.1.id)) : lgE g L G (P ++ q :: p :: S) e = lgE g L G (P ++ p :: q :: S) e ∧ trB g L G (P ++ q :: p :: S) e hi = trB g L G (P ++ p :: q :: S) e hi := by
 have h1 : jrnB g L G (P ++ p :: q :: S) = true := by
  cases h2 : jrnB g L G (P ++ p :: q :: S) with
  | true => rfl
  | false => exact absurd (by unfold lgE; rw [h2]; rfl) h
 have h3 : lgE g L G (P ++ q :: p :: S) e = lgE g L G (P ++ p :: q :: S) e := by unfold lgE; rw [h1, jrn_swap h1 hpq]
 refine ⟨h3, ?_⟩
 unfold trB
 rw [h3, trL_congr (Ys := P ++ p :: q :: S) fun a => by rw [balS_swap]]
theorem trB_len {W : World} {g : Grp} {L : List Acc} {G : List Ent} {Xs : List Etl} {e hi : Int} (hk : GrK W g L G) (hs : Sm g G) : (trB g L G Xs e hi).length ≤ 100000 := by
 unfold trB
 split
 ·rename_i h9
  obtain ⟨-, h8, h7⟩ := lgE_zero h9
  have h6 := hk.lg
  have hmm : G.getD e.toNat ent0 ∈ G := getD_mem_acc (by omega)
  have h5 := trL_len (G.getD e.toNat ent0).L Xs e hi
  rw [(hk.hk _ hmm).ln] at h5
  have := (hs.e _ hmm).1
  omega
 ·simp
theorem at_split {α : Type} {L : List α} {k : Nat} (h : k + 1 < L.length) : ∃ P p q S, L = P ++ p :: q :: S ∧ P.length = k := by
 refine ⟨L.take k, L[k], L[k + 1], L.drop (k + 2), ?_, List.length_take_of_le (by omega)⟩
 rw [← List.drop_eq_getElem_cons (by omega), ← List.drop_eq_getElem_cons (by omega), List.take_append_drop]
def lgoF (bb off n c k k1 mb cm : Nat) (x y : Ety) : List (Nat × AK.Fact (Only (· = mb))) := [(59, AK.Fact.is (.slice (some ⟨mb, 0, none⟩) n cm)), (60, AK.Fact.is (.int .i64 (k : Int))), (61, AK.Fact.is (.slice (some ⟨mb, 0, none⟩) n cm)), (62, AK.Fact.is (.int .i64 (k : Int))), (63, AK.Fact.is (.int .i64 (k1 : Int))), (64, AK.Fact.is (.slice (some ⟨bb, off, none⟩) n c)), (65, AK.Fact.is (.int .i64 (k : Int))), (66, AK.Fact.is (.int .i64 (k1 : Int))), (67, AK.Fact.is (.pointer (some ⟨bb, off + k1 * 7, none⟩))), (68, AK.Fact.is (etyV y)), (69, AK.Fact.is (.slice (some ⟨bb, off, none⟩) n c)), (70, AK.Fact.is (.int .i64 (k : Int))), (71, AK.Fact.is (.pointer (some ⟨bb, off + k * 7, none⟩))), (72, AK.Fact.is (etyV x)), (73, AK.Fact.is (.pointer (some ⟨mb, k * 7, none⟩))), (74, AK.Fact.is (.pointer (some ⟨mb, k1 * 7, none⟩)))]
set_option maxRecDepth 100000 in
set_option maxHeartbeats 12800000 in
theorem law_lord (g : Grp) (L : List Acc) (G : List Ent) (A : Option Addr) (n c : Nat) (Xs : List Etl) (a b d : Int) (w : World) (hk : GrK w g L G) (hw : GrW g L G) (hmx : g.m ≤ 9223372036854775807) (hn : Xs.length = n) (hnm : n ≤ 9223372036854775807) (hcn : n ≤ c) (hX : RowAt lyX w A (Xs.map (·.1))) (hq : ∀ a ∈ Xs, EtyK w a.1 a.2 ∧ a.1.n ≤ 9223372036854775807 ∧ a.1.txt.size ≤ maxLen ∧ EtyW a.1) :
  Calls Tryz.prog 11 #[grpV g, .slice A n c, .agg #[.int .i64 a, .int .i64 b, .int .i64 d]] w fun e w' => e = .returned (.bool true) ∧ Below w.heap.size w w' := by
 have HAW := Lib.hid lawake_any
 obtain ⟨s0, hs0⟩ : ∃ s0, w.heap.size = s0 := ⟨_, rfl⟩
 obtain ⟨w2, hw2⟩ : ∃ w2, (w.alloc (.cells #[.string g.cur, .int .i64 g.cy, .int .i64 g.cm, .int .i64 g.cp, .slice g.A g.n g.c, .int .i64 g.r0, .int .i64 g.r1, .int .i64 g.r2, .int .i64 g.r3, .int .i64 g.r4, .int .i64 g.r5, .int .i64 g.r6, .int .i64 g.r7, .int .i64 g.r8, .int .i64 g.r9, .int .i64 g.r10, .int .i64 g.r11, .int .i64 g.r12, .int .i64 g.r13, .int .i64 g.r14, .slice g.E g.m g.d] 29)).alloc (.cells #[.int .i64 a, .int .i64 b, .int .i64 d] 48) = w2 := ⟨_, rfl⟩
 have HGB : Hid (Wh 29 w2 s0 (grpC g)) := Lib.hid (by rw [← hw2, ← hs0]; exact (Wh.new w 29 (grpC g)).up (below_alloc_new _))
 have HAB : Hid (Wh 48 w2 (s0 + 1) [.int .i64 a, .int .i64 b, .int .i64 d]) := Lib.hid (by
  rw [← hw2, ← hs0]
  have h9 := Wh.new (w.alloc (.cells #[.string g.cur, .int .i64 g.cy, .int .i64 g.cm, .int .i64 g.cp, .slice g.A g.n g.c, .int .i64 g.r0, .int .i64 g.r1, .int .i64 g.r2, .int .i64 g.r3, .int .i64 g.r4, .int .i64 g.r5, .int .i64 g.r6, .int .i64 g.r7, .int .i64 g.r8, .int .i64 g.r9, .int .i64 g.r10, .int .i64 g.r11, .int .i64 g.r12, .int .i64 g.r13, .int .i64 g.r14, .slice g.E g.m g.d] 29)) 48 [.int .i64 a, .int .i64 b, .int .i64 d]
  rw [World.size_alloc] at h9
  exact h9)
 have HB2 : Hid (Below w.heap.size w w2) := Lib.hid (by rw [← hw2]; exact below_new (below_alloc_new _) _)
 have HKC := Lib.hid (hk.up HB2.out)
 have HXC := Lib.hid (hX.up HB2.out)
 have HEC : Hid (EtysK w2 Xs) := Lib.hid (fun p hp => (hq p hp).1.up HB2.out)
 have HQ : Hid (∀ p ∈ Xs, p.1.n ≤ 9223372036854775807 ∧ p.1.txt.size ≤ maxLen ∧ EtyW p.1) := Lib.hid (fun p hp => (hq p hp).2)
 have HWW := Lib.hid hw
 have HS0 := Lib.hid hs0
 have HNL := Lib.hid hn
 have HCN := Lib.hid hcn
 have HBC := Lib.hid (Below.refl w2.heap.size w2)
 have HAT : Hid (∀ W, Below w2.heap.size w2 W → W.cell? ⟨s0 + 1, 0, none⟩ = some (.int .i64 a) ∧ W.cell? ⟨s0 + 1, 1, none⟩ = some (.int .i64 b) ∧ W.cell? ⟨s0 + 1, 2, none⟩ = some (.int .i64 d)) := Lib.hid (fun W h => ⟨(HAB.out.up h).at 0 _ rfl, (HAB.out.up h).at 1 _ rfl, (HAB.out.up h).at 2 _ rfl⟩)
 have HBW : Hid (∀ W, Below w2.heap.size w2 W → Below w.heap.size w W) := Lib.hid (fun W h => HB2.out.trans (h.mono HB2.out.size))
 have HLO : Hid (∀ p ∈ Xs, -9223372036854775808 ≤ p.1.day) := Lib.hid (fun p hp => (bounds_i64 (hq p hp).2.2.2.day).1)
 obtain ⟨GV, hGV⟩ : ∃ GV, GV = grpV g := ⟨_, rfl⟩
 have HGV := Lib.hid hGV
 have HFW := Lib.hid (fun W (h : Below w2.heap.size w2 W) => by have h9 := r12few_any g G A c Xs W (HKC.out.up h).he hk.lg hmx (HXC.out.up h) (HEC.out.up h) (by rw [hn]; exact hnm) (fun p hp => ⟨(hq p hp).2.1, (hq p hp).2.2.1⟩); rw [← hGV, hn] at h9; exact h9)
 have HLG : Hid (∀ w9, Below w2.heap.size w2 w9 → (Instr.loadAt 29 (.pointer (some ⟨s0, 0, none⟩))).run Tryz.prog w9 = .ok GV w9) := Lib.hid (fun w9 h9 => by rw [hGV, grpV_is]; exact (HGB.out.up h9).rg.load 0 29 (grpC g) rfl _ Tryz.underlying29 rfl (by kernel_rfl))
 clear hk hGV hw hX hq hn hmx hnm hcn
 have HM1 : True := trivial
 cases hf : fewX Xs && few10 g G
 ·rw [hf] at HFW
  clear hf
  go_enter Tryz.func11, Tryz.ntmps11
  go_wp2_with (first
   | (go_at_call 29; refine (HAW.out _).mono ?_; rintro e w3 ⟨rfl, hb⟩; have hB3 := Lib.hid (HBC.out.trans (hb.mono HBC.out.size)); clear hb HBC; have HBC := hB3; clear hB3)
   | (clear HM1; refine wpList_load_is rfl 29 _ rfl (.pointer (some ⟨s0, 0, none⟩)) rfl GV (HLG.out _ HBC.out) ?_)
   | (go_at_call 14; refine (HFW.out _ HBC.out).mono ?_; rintro e w4 ⟨rfl, hb⟩; have hB3 := Lib.hid (HBC.out.trans (hb.mono HBC.out.size)); clear hb HBC; have HBC := hB3; clear hB3))
  go_ret
  exact ⟨by first | rfl | simp, by have h9 := HBW.out _ HBC.out; first | exact h9 | (rw [← HS0.out]; exact h9)⟩
 ·have HFI := Lib.hid (lfew_is hf)
  have HFA := Lib.hid (few_amt hf)
  rw [hf] at HFW
  clear hf
  have HLX : Hid (∀ W, Below w2.heap.size w2 W → LgX W g L G A c Xs) := Lib.hid (fun W hb => lgx_of HFI.out (HKC.out.up hb) HWW.out (HXC.out.up hb) (HEC.out.up hb) HQ.out (by rw [HNL.out]; exact HCN.out))
  have hn61 : n ≤ 61 := by rw [← HNL.out]; exact HFI.out.2.1
  by_cases hn2 : n < 2
  ·have d1 : decide ((n : Int) < 2) = true := decide_eq_true (by omega)
   clear hn2
   go_enter Tryz.func11, Tryz.ntmps11
   go_wp2_with (first
    | (go_at_call 29; refine (HAW.out _).mono ?_; rintro e w3 ⟨rfl, hb⟩; have hB3 := Lib.hid (HBC.out.trans (hb.mono HBC.out.size)); clear hb HBC; have HBC := hB3; clear hB3)
    | (clear HM1; refine wpList_load_is rfl 29 _ rfl (.pointer (some ⟨s0, 0, none⟩)) rfl GV (HLG.out _ HBC.out) ?_)
    | (go_at_call 14; refine (HFW.out _ HBC.out).mono ?_; rintro e w4 ⟨rfl, hb⟩; have hB3 := Lib.hid (HBC.out.trans (hb.mono HBC.out.size)); clear hb HBC; have HBC := hB3; clear hB3; obtain ⟨q0, q1, q2⟩ := HAT.out _ HBC.out))
   go_ret
   exact ⟨by first | rfl | simp, by have h9 := HBW.out _ HBC.out; first | exact h9 | (rw [← HS0.out]; exact h9)⟩
  have d1 : decide ((n : Int) < 2) = false := decide_eq_false (by omega)
  by_cases ha : a < 0
  ·have d2 : decide (a < 0) = true := decide_eq_true ha
   clear ha
   go_enter Tryz.func11, Tryz.ntmps11
   go_wp2_with (first
    | (go_at_call 29; refine (HAW.out _).mono ?_; rintro e w3 ⟨rfl, hb⟩; have hB3 := Lib.hid (HBC.out.trans (hb.mono HBC.out.size)); clear hb HBC; have HBC := hB3; clear hB3)
    | (clear HM1; refine wpList_load_is rfl 29 _ rfl (.pointer (some ⟨s0, 0, none⟩)) rfl GV (HLG.out _ HBC.out) ?_)
    | (go_at_call 14; refine (HFW.out _ HBC.out).mono ?_; rintro e w4 ⟨rfl, hb⟩; have hB3 := Lib.hid (HBC.out.trans (hb.mono HBC.out.size)); clear hb HBC; have HBC := hB3; clear hB3; obtain ⟨q0, q1, q2⟩ := HAT.out _ HBC.out))
   go_ret
   exact ⟨by first | rfl | simp, by have h9 := HBW.out _ HBC.out; first | exact h9 | (rw [← HS0.out]; exact h9)⟩
  have d2 : decide (a < 0) = false := decide_eq_false ha
  obtain ⟨nm, hnm⟩ : ∃ nm : Nat, n = nm + 1 := ⟨n - 1, by omega⟩
  have hz0 : (n : Int) - 1 = (nm : Int) := by omega
  have hz1 : wrap64 ((n : Int) - 1) = (nm : Int) := by unfold wrap64; omega
  obtain ⟨k, hk⟩ : ∃ k : Nat, a.tmod (nm : Int) = (k : Int) := ⟨(a.tmod nm).toNat, by rw [Int.tmod_eq_emod_of_nonneg (by omega), Int.toNat_of_nonneg (Int.emod_nonneg _ (by omega))]⟩
  have hkn : k + 1 < n := by
   have := Int.emod_lt_of_pos a (show (0 : Int) < nm by omega)
   rw [← Int.tmod_eq_emod_of_nonneg (by omega), hk] at this
   omega
  have hnz : ((nm : Int) == 0) = false := by simp; omega
  have hnz2 : ¬ (nm : Int) = 0 := by omega
  obtain ⟨P, p, q, S, hXs, hP⟩ := at_split (L := Xs) (k := k) (by rw [HNL.out]; exact hkn)
  obtain ⟨x, X⟩ := p
  obtain ⟨y, Y⟩ := q
  have hxk : Xs[k]? = some (x, X) := by rw [hXs, List.getElem?_append_right (by omega), hP, Nat.sub_self]; rfl
  have hyk : Xs[k + 1]? = some (y, Y) := by rw [hXs, List.getElem?_append_right (by omega), hP, Nat.add_sub_cancel_left]; rfl
  obtain ⟨k1, hk1⟩ : ∃ k1, k + 1 = k1 := ⟨_, rfl⟩
  rw [hk1] at hyk hkn
  have hkz : (k : Int) + 1 = (k1 : Int) := by omega
  have hkz2 : wrap64 ((k : Int) + 1) = (k1 : Int) := by unfold wrap64; omega
  have hkz3 : IntKind.i64.wrap (k1 : Int) = (k1 : Int) := i64_wrapN (Nat.le_trans (Nat.le_of_lt hkn) (Nat.le_trans hn61 (by decide)))
  obtain ⟨bb, off, hA, hbl, hrgx⟩ := HXC.out.at (i := k) (a := x) (by rw [List.getElem?_map, hxk]; rfl)
  obtain ⟨bb2, off2, hA2, -, hrgy⟩ := HXC.out.at (i := k1) (a := y) (by rw [List.getElem?_map, hyk]; rfl)
  rw [hA] at hA2
  injection hA2 with hA2
  injection hA2 with e1 e2 _
  subst e1 e2 hA
  have HCX : Hid (∀ W, Below w2.heap.size w2 W → W.cell? ⟨bb, off + k1 * 7 + 3, none⟩ = some (.int .i64 y.kind) ∧ W.cell? ⟨bb, off + k1 * 7 + 4, none⟩ = some (.int .i64 y.of_) ∧ W.cell? ⟨bb, off + k * 7, none⟩ = some (.int .i64 x.id)) := Lib.hid (fun W hb => ⟨(hb.cell (p := ⟨bb, off + k1 * 7 + 3, none⟩) hbl).trans (hrgy 3 _ rfl), (hb.cell (p := ⟨bb, off + k1 * 7 + 4, none⟩) hbl).trans (hrgy 4 _ rfl), (hb.cell (p := ⟨bb, off + k * 7 + 0, none⟩) hbl).trans (hrgx 0 _ rfl)⟩)
  have HLXW : Hid (∀ W, Below w2.heap.size w2 W → (Instr.loadAt 46 (.pointer (some ⟨bb, off + k * 7, none⟩))).run Tryz.prog W = .ok (etyV x) W ∧ (Instr.loadAt 46 (.pointer (some ⟨bb, off + k1 * 7, none⟩))).run Tryz.prog W = .ok (etyV y) W) := Lib.hid (fun W hW => ⟨run_loadAt_mid W bb (off + k * 7) 46 (etyC x) _ (fun jj v hv => (hW.cell (p := ⟨bb, off + k * 7 + jj, none⟩) hbl).trans (hrgx jj v hv)) Tryz.underlying46 rfl (by kernel_rfl), run_loadAt_mid W bb (off + k1 * 7) 46 (etyC y) _ (fun jj v hv => (hW.cell (p := ⟨bb, off + k1 * 7 + jj, none⟩) hbl).trans (hrgy jj v hv)) Tryz.underlying46 rfl (by kernel_rfl)⟩)
  have HZX := Lib.hid hxk
  have HZY := Lib.hid hyk
  have HXS := Lib.hid hXs
  have HPL := Lib.hid hP
  have HK1 := Lib.hid hk1
  have hkc1 : (k : Int) < (n : Int) := Int.ofNat_lt.2 (Nat.lt_trans (hk1 ▸ Nat.lt_succ_self k) hkn)
  have hkc2 : (k1 : Int) < (n : Int) := Int.ofNat_lt.2 hkn
  have HKN := Lib.hid hkn
  clear hxk hyk hXs hP hrgx hrgy hbl hn2 ha hk1 hnm hkn
  by_cases hkd : y.kind = 3
  ·have k1d : (y.kind == 3) = true := by simp [hkd]
   by_cases hof : y.of_ = x.id
   ·have k2d : (y.of_ == x.id) = true := by simp [hof]
    clear hkd hof
    go_enter Tryz.func11, Tryz.ntmps11
    go_upto_region 6 with (first
     | (go_at_call 29; refine (HAW.out _).mono ?_; rintro e w3 ⟨rfl, hb⟩; have hB3 := Lib.hid (HBC.out.trans (hb.mono HBC.out.size)); clear hb HBC; have HBC := hB3; clear hB3)
     | (clear HM1; refine wpList_load_is rfl 29 _ rfl (.pointer (some ⟨s0, 0, none⟩)) rfl GV (HLG.out _ HBC.out) ?_)
     | (go_at_call 14; refine (HFW.out _ HBC.out).mono ?_; rintro e w4 ⟨rfl, hb⟩; have hB3 := Lib.hid (HBC.out.trans (hb.mono HBC.out.size)); clear hb HBC; have HBC := hB3; clear hB3; obtain ⟨q0, q1, q2⟩ := HAT.out _ HBC.out))
    obtain ⟨r1, r2, r3⟩ := HCX.out _ HBC.out
    go_quiet (fail)
    replace HBC := Lib.hid (below_drewN HBC.out nq)
    generalize World.drewN _ nq = W6 at *
    go_wp2_with fail
    go_ret
    exact ⟨by first | rfl | simp, by have h9 := HBW.out _ HBC.out; first | exact h9 | (rw [← HS0.out]; exact h9)⟩
   ·have k2d : (y.of_ == x.id) = false := by simp [hof]
    have HPQ : Hid (¬ (y.kind = 3 ∧ y.of_ = x.id)) := Lib.hid (fun h => hof h.2)
    clear hkd hof
    go_enter Tryz.func11, Tryz.ntmps11
    go_upto_region 6 with (first
     | (go_at_call 29; refine (HAW.out _).mono ?_; rintro e w3 ⟨rfl, hb⟩; have hB3 := Lib.hid (HBC.out.trans (hb.mono HBC.out.size)); clear hb HBC; have HBC := hB3; clear hB3)
     | (clear HM1; refine wpList_load_is rfl 29 _ rfl (.pointer (some ⟨s0, 0, none⟩)) rfl GV (HLG.out _ HBC.out) ?_)
     | (go_at_call 14; refine (HFW.out _ HBC.out).mono ?_; rintro e w4 ⟨rfl, hb⟩; have hB3 := Lib.hid (HBC.out.trans (hb.mono HBC.out.size)); clear hb HBC; have HBC := hB3; clear hB3; obtain ⟨q0, q1, q2⟩ := HAT.out _ HBC.out))
    obtain ⟨r1, r2, r3⟩ := HCX.out _ HBC.out
    go_quiet (fail)
    replace HBC := Lib.hid (below_drewN HBC.out nq)
    generalize World.drewN _ nq = W6 at *
    clear r1 r2 r3
    obtain ⟨B, hB⟩ : ∃ B, W6.heap.size = B := ⟨_, rfl⟩
    have HBB := Lib.hid hB
    obtain ⟨i0, hi, hz1i, hz2i, hz3i⟩ := info_parts infoEx
    have HEMP : Hid (OwnR lyX 46 (W6.alloc (.cells #[] 46)) B (.slice (some ⟨B, 0, none⟩) 0 0) []) := Lib.hid (by rw [← hB]; exact OwnR.empty (Nat.le_refl _))
    have HB7 : Hid (Below W6.heap.size W6 (W6.alloc (.cells #[] 46))) := Lib.hid (below_alloc_new _)
    go_upto_region 9 with (at_builtin; refine wpList_app_row (R := lyX) (v := .slice (some ⟨B, 0, none⟩) 0 0) rfl (.tmp 56) (.tmp 57) 30 rfl i0 _ 80 Tryz.underlying30 hi hz1i hz2i hz3i (by omega) rfl rfl HEMP.out (some ⟨bb, off, none⟩) n c (Xs.map (·.1)) (by rw [List.length_map]; exact HNL.out) rfl ((HXC.out.up HBC.out).up HB7.out) (by simp; omega) (by have := HBB.out; simp; omega) ?_; intro v8 w8 ho8 hg8 hn8; rw [List.nil_append] at ho8; have HO := Lib.hid ho8.out; have hb8 : Below B W6 w8 := (HB7.out.mono (Nat.le_of_eq HBB.out.symm)).grown hg8.out (by have := HBB.out; simp; omega) (fun j hj => Nat.le_of_eq (Option.some.inj hj)); have HB8 := Lib.hid hb8; clear ho8 hg8 hn8 hb8)
    obtain ⟨Am, cm, em, -, hAm⟩ := HO.out.reads
    rw [List.length_map, HNL.out] at em
    subst em
    have hnz3 : 0 < n := by have := HKN.out; omega
    have hAmx : ∃ mb, Am = some ⟨mb, 0, none⟩ := by
     cases Am with
     | none =>
      have h9 := (HO.out.none_nil).1
      have h8 := congrArg List.length h9
      rw [List.length_map, HNL.out] at h8
      simp at h8
      omega
     | some ad =>
      obtain ⟨g9, o9, s9⟩ := ad
      cases s9 with
      | none => obtain ⟨-, h8⟩ := hAm g9 o9 rfl; subst h8; exact ⟨g9, rfl⟩
      | some s9 =>
       exfalso
       rcases HO.out.2 with ⟨h1, _⟩ | ⟨g', cap, cur, h1, _⟩
       ·cases h1
       ·injection h1 with h1 _ _
        injection h1 with h1
        injection h1 with _ _ h1
        cases h1
    obtain ⟨mb, rfl⟩ := hAmx
    clear hAm hnz3
    obtain ⟨E0, hE0⟩ : ∃ E0, Xs.map (·.1) = E0 := ⟨_, rfl⟩
    obtain ⟨E1, hE1⟩ : ∃ E1, E0.set k y = E1 := ⟨_, rfl⟩
    obtain ⟨E2, hE2⟩ : ∃ E2, E1.set k1 x = E2 := ⟨_, rfl⟩
    have HO8 := HO
    rw [hE0] at HO8
    have hl0 : E0.length = n := by rw [← hE0, List.length_map, HNL.out]
    have HIX : Hid (E0[k]? = some x) := Lib.hid (by rw [← hE0, List.getElem?_map, HZX.out]; rfl)
    have HIY0 : E0[k1]? = some y := by rw [← hE0, List.getElem?_map, HZY.out]; rfl
    have HIY : Hid (E1[k1]? = some y) := Lib.hid (by rw [← hE1, List.getElem?_set_ne (by have := HK1.out; omega)]; exact HIY0)
    have HMB : Hid (B ≤ mb) := Lib.hid (HO8.out.lt rfl).1
    have HE2 : Hid (E2 = (P ++ (y, Y) :: (x, X) :: S).map (·.1)) := Lib.hid (by
     rw [← hE2, ← hE1, ← hE0, HXS.out, ← HK1.out]
     simp only [List.map_append, List.map_cons]
     rw [List.set_append_right _ _ (by rw [List.length_map, HPL.out]; exact Nat.le_refl _), List.length_map, HPL.out, Nat.sub_self, List.set_cons_zero, List.set_append_right _ _ (by rw [List.length_map, HPL.out]; omega), List.length_map, HPL.out, Nat.add_sub_cancel_left, List.set_cons_succ, List.set_cons_zero])
    have HW8 : Hid (Below B W6 w8) := HB8
    have HBS : Hid (B ≤ w8.heap.size) := Lib.hid (by have := HB8.out.size; have := HBB.out; omega)
    have HLDX : Hid (∀ W, Below B w8 W → (Instr.loadAt 46 (.pointer (some ⟨bb, off + k * 7, none⟩))).run Tryz.prog W = .ok (etyV x) W) := Lib.hid (fun W hb => (HLXW.out W (HBC.out.trans ((HB8.out.trans hb).mono (by have := HBC.out.size; have := HBB.out; omega)))).1)
    have HLDY : Hid (∀ W, Below B w8 W → (Instr.loadAt 46 (.pointer (some ⟨bb, off + k1 * 7, none⟩))).run Tryz.prog W = .ok (etyV y) W) := Lib.hid (fun W hb => (HLXW.out W (HBC.out.trans ((HB8.out.trans hb).mono (by have := HBC.out.size; have := HBB.out; omega)))).2)
    have HKZ := Lib.hid (And.intro hkz hkz3)
    have HKY := Lib.hid (And.intro hkc1 hkc2)
    have HE1E := Lib.hid hE1
    have HE2E := Lib.hid hE2
    clear hE0 hE1 hE2 HIY0 HO hB
    refine AK.region_facts (Rp := Below0) (Kp := Only (· = mb)) (lgoF bb off n c k k1 mb cm x y) (swJ w8 B mb n cm E0 E1 E2) [[], [], [], [], [62], [], [], [65], [64, 66], [67], [], [], [69, 70], [71], [59, 60], [73, 68], [61, 63], [74, 72]] [15, 17] [[], [], []] [0, 0, 1, 1, 1, 0, 0, 0, 0, 0, 1, 1, 1, 0, 0, 2, 1, 2] [0, 0, 0, 0, 0, 0, 0, 0, 0, 0, 0, 0, 0, 0, 0, 0, 0, 0] [] (fun u => by simp only [lgoF, AK.temps, List.map_cons, List.map_nil, fillL, List.setIfInBounds_toArray, List.set_cons_zero, List.set_cons_succ]; rfl) (by kernel_rfl) (by kernel_rfl) (fun _ _ h => h.size) (fun _ _ h => Only.of h) (swJ.st w8 B mb n cm E0 E1 E2) (⟨HO8.out.up (dc_drew (Below.refl _ _)), (dc_drew (Below.refl _ _)).mono HBS.out⟩) ?_ ?_
    ·refine AK.sc (lim := 0) (lo := 0) rfl rfl rfl rfl ?_ ?_
     ·intro k_ u w_ hk_ hl_ hJ hF K hK
      obtain rfl : k_ = 0 := by omega
      clear hF
      go_simp
      exact hK.out _ _ (Below.refl _ _) (rfl) trivial
     refine AK.sc (lim := 0) (lo := 0) rfl rfl rfl rfl ?_ ?_
     ·intro k_ u w_ hk_ hl_ hJ hF K hK
      obtain rfl : k_ = 0 := by omega
      clear hF
      go_simp
      exact hK.out _ _ (Below.refl _ _) (rfl) trivial
     refine AK.sc (lim := 1) (lo := 0) rfl rfl rfl rfl ?_ ?_
     ·intro k_ u w_ hk_ hl_ hJ hF K hK
      clear hF
      go_simp
      exact hK.out _ _ (Below.refl _ _) (rfl) trivial
     refine AK.sc (lim := 1) (lo := 0) rfl rfl rfl rfl ?_ ?_
     ·intro k_ u w_ hk_ hl_ hJ hF K hK
      clear hF
      go_simp
      exact hK.out _ _ (Below.refl _ _) (rfl) trivial
     refine AK.sc (lim := 1) (lo := 0) rfl rfl rfl rfl ?_ ?_
     ·intro k_ u w_ hk_ hl_ hJ hF K hK
      have h62 : u 62 = .int .i64 (k : Int) := AK.facts_get hF 62 (by simp)
      clear hF
      simp only [h62] at hK ⊢
      clear h62
      obtain ⟨hz_, hx_⟩ := HKZ.out
      obtain ⟨hy_, hw_⟩ := HKY.out
      go_simp
      exact hK.out _ _ (Below.refl _ _) (rfl) trivial
     refine AK.sc (lim := 0) (lo := 0) rfl rfl rfl rfl ?_ ?_
     ·intro k_ u w_ hk_ hl_ hJ hF K hK
      obtain rfl : k_ = 0 := by omega
      clear hF
      go_simp
      exact hK.out _ _ (Below.refl _ _) (rfl) trivial
     refine AK.sc (lim := 0) (lo := 0) rfl rfl rfl rfl ?_ ?_
     ·intro k_ u w_ hk_ hl_ hJ hF K hK
      obtain rfl : k_ = 0 := by omega
      clear hF
      go_simp
      exact hK.out _ _ (Below.refl _ _) (rfl) trivial
     refine AK.sc (lim := 0) (lo := 0) rfl rfl rfl rfl ?_ ?_
     ·intro k_ u w_ hk_ hl_ hJ hF K hK
      obtain rfl : k_ = 0 := by omega
      have h65 : u 65 = .int .i64 (k : Int) := AK.facts_get hF 65 (by simp)
      clear hF
      simp only [h65] at hK ⊢
      clear h65
      obtain ⟨hz_, hx_⟩ := HKZ.out
      obtain ⟨hy_, hw_⟩ := HKY.out
      go_simp
      exact hK.out _ _ (Below.refl _ _) (rfl) trivial
     refine AK.sc (lim := 0) (lo := 0) rfl rfl rfl rfl ?_ ?_
     ·intro k_ u w_ hk_ hl_ hJ hF K hK
      obtain rfl : k_ = 0 := by omega
      have h64 : u 64 = .slice (some ⟨bb, off, none⟩) n c := AK.facts_get hF 64 (by simp)
      have h66 : u 66 = .int .i64 (k1 : Int) := AK.facts_get hF 66 (by simp)
      clear hF
      simp only [h64, h66] at hK ⊢
      clear h64 h66
      obtain ⟨hz_, hx_⟩ := HKZ.out
      obtain ⟨hy_, hw_⟩ := HKY.out
      go_simp
      exact hK.out _ _ (Below.refl _ _) (rfl) trivial
     refine AK.sc (lim := 0) (lo := 0) rfl rfl rfl rfl ?_ ?_
     ·intro k_ u w_ hk_ hl_ hJ hF K hK
      obtain rfl : k_ = 0 := by omega
      have h67 : u 67 = .pointer (some ⟨bb, off + k1 * 7, none⟩) := AK.facts_get hF 67 (by simp)
      clear hF
      simp only [h67] at hK ⊢
      clear h67
      refine wp_load_is 46 _ rfl (.pointer (some ⟨bb, off + k1 * 7, none⟩)) rfl (etyV y) (HLDY.out _ (sw_low hJ)) ?_
      exact hK.out _ _ (Below.refl _ _) rfl trivial
     refine AK.sc (lim := 1) (lo := 0) rfl rfl rfl rfl ?_ ?_
     ·intro k_ u w_ hk_ hl_ hJ hF K hK
      clear hF
      go_simp
      exact hK.out _ _ (Below.refl _ _) (rfl) trivial
     refine AK.sc (lim := 1) (lo := 0) rfl rfl rfl rfl ?_ ?_
     ·intro k_ u w_ hk_ hl_ hJ hF K hK
      clear hF
      go_simp
      exact hK.out _ _ (Below.refl _ _) (rfl) trivial
     refine AK.sc (lim := 1) (lo := 0) rfl rfl rfl rfl ?_ ?_
     ·intro k_ u w_ hk_ hl_ hJ hF K hK
      have h69 : u 69 = .slice (some ⟨bb, off, none⟩) n c := AK.facts_get hF 69 (by simp)
      have h70 : u 70 = .int .i64 (k : Int) := AK.facts_get hF 70 (by simp)
      clear hF
      simp only [h69, h70] at hK ⊢
      clear h69 h70
      obtain ⟨hz_, hx_⟩ := HKZ.out
      obtain ⟨hy_, hw_⟩ := HKY.out
      go_simp
      exact hK.out _ _ (Below.refl _ _) (rfl) trivial
     refine AK.sc (lim := 0) (lo := 0) rfl rfl rfl rfl ?_ ?_
     ·intro k_ u w_ hk_ hl_ hJ hF K hK
      obtain rfl : k_ = 0 := by omega
      have h71 : u 71 = .pointer (some ⟨bb, off + k * 7, none⟩) := AK.facts_get hF 71 (by simp)
      clear hF
      simp only [h71] at hK ⊢
      clear h71
      refine wp_load_is 46 _ rfl (.pointer (some ⟨bb, off + k * 7, none⟩)) rfl (etyV x) (HLDX.out _ (sw_low hJ)) ?_
      exact hK.out _ _ (Below.refl _ _) rfl trivial
     refine AK.sc (lim := 0) (lo := 0) rfl rfl rfl rfl ?_ ?_
     ·intro k_ u w_ hk_ hl_ hJ hF K hK
      obtain rfl : k_ = 0 := by omega
      have h59 : u 59 = .slice (some ⟨mb, 0, none⟩) n cm := AK.facts_get hF 59 (by simp)
      have h60 : u 60 = .int .i64 (k : Int) := AK.facts_get hF 60 (by simp)
      clear hF
      simp only [h59, h60] at hK ⊢
      clear h59 h60
      obtain ⟨hz_, hx_⟩ := HKZ.out
      obtain ⟨hy_, hw_⟩ := HKY.out
      go_simp
      exact hK.out _ _ (Below.refl _ _) (rfl) trivial
     refine AK.ss rfl rfl ?_ ?_
     ·intro u w_ hJ hA_ hF K hK
      have h73 : u 73 = .pointer (some ⟨mb, k * 7, none⟩) := AK.facts_get hF 73 (by simp)
      have h68 : u 68 = etyV y := AK.facts_get hF 68 (by simp)
      clear hF
      simp only [h73, h68] at hK ⊢
      clear h73 h68
      refine wp_store_at 46 _ _ rfl mb (k * 7) rfl (etyC y) rfl (own_there7 hJ.1 HIX.out) (by kernel_rfl) (by kernel_rfl) ?_
      exact hK.out undef _ (swJ.s1 hJ HIX.out HMB.out HE1E.out) (Only.setCells (S := fun b => b = mb) rfl _ _ _) trivial
     refine AK.sc (lim := 1) (lo := 0) rfl rfl rfl rfl ?_ ?_
     ·intro k_ u w_ hk_ hl_ hJ hF K hK
      have h61 : u 61 = .slice (some ⟨mb, 0, none⟩) n cm := AK.facts_get hF 61 (by simp)
      have h63 : u 63 = .int .i64 (k1 : Int) := AK.facts_get hF 63 (by simp)
      clear hF
      simp only [h61, h63] at hK ⊢
      clear h61 h63
      obtain ⟨hz_, hx_⟩ := HKZ.out
      obtain ⟨hy_, hw_⟩ := HKY.out
      go_simp
      exact hK.out _ _ (Below.refl _ _) (rfl) trivial
     refine AK.ss rfl rfl ?_ ?_
     ·intro u w_ hJ hA_ hF K hK
      have h74 : u 74 = .pointer (some ⟨mb, k1 * 7, none⟩) := AK.facts_get hF 74 (by simp)
      have h72 : u 72 = etyV x := AK.facts_get hF 72 (by simp)
      clear hF
      simp only [h74, h72] at hK ⊢
      clear h74 h72
      refine wp_store_at 46 _ _ rfl mb (k1 * 7) rfl (etyC x) rfl (own_there7 hJ.1 HIY.out) (by kernel_rfl) (by kernel_rfl) ?_
      exact hK.out undef _ (swJ.s2 hJ HIY.out HMB.out HE2E.out) (Only.setCells (S := fun b => b = mb) rfl _ _ _) trivial
     exact AK.StepsOk.nil
    ·intro u W9 hJ9 hF
     clear hF
     have HBN : Hid (Below w2.heap.size w2 W9) := Lib.hid (HBC.out.trans ((HB8.out.trans hJ9.2).mono (by have := HBC.out.size; have := HBB.out; omega)))
     have HO9 : Hid (OwnR lyX 46 W9 B (.slice (some ⟨mb, 0, none⟩) n cm) ((P ++ (y, Y) :: (x, X) :: S).map (·.1))) := Lib.hid (by rw [← HE2.out]; exact hJ9.1)
     clear hJ9 HBC
     have HBC := HBN
     clear HLDX HLDY HE2 HE1E HE2E HIX HIY HKZ HKY HB8 HO8 HW8 HEMP HB7 HBS HZX HZY
     obtain ⟨Ms, hMs⟩ : ∃ Ms, P ++ (y, Y) :: (x, X) :: S = Ms := ⟨_, rfl⟩
     have hsub : ∀ p ∈ Ms, p ∈ Xs := by
      rw [← hMs, HXS.out]
      intro p hp
      simp only [List.mem_append, List.mem_cons] at hp ⊢
      rcases hp with h | h | h | h
      ·exact .inl h
      ·exact .inr (.inr (.inl h))
      ·exact .inr (.inl h)
      ·exact .inr (.inr (.inr h))
     have hlm : Ms.length = n := by rw [← HNL.out, HXS.out, ← hMs]; simp
     have hnx : Xs.length = n := HNL.out
     rw [hMs] at HO9
     have HLM : Hid (∀ W, Below W9.heap.size W9 W → LgX W g L G (some ⟨mb, 0, none⟩) cm Ms) := Lib.hid (fun W hb => by
      have hb2 : Below w2.heap.size w2 W := HBC.out.trans (hb.mono HBC.out.size)
      have ho := HO9.out.up hb
      obtain ⟨A7, c7, e7, hr7, -⟩ := ho.reads
      injection e7 with e7 _ _
      exact lgx_of ⟨HFI.out.1, by rw [hlm, ← hnx]; exact HFI.out.2.1, fun p hp => HFI.out.2.2 p (hsub p hp)⟩ (HKC.out.up hb2) HWW.out (by rw [e7]; exact hr7) (fun p hp => (HEC.out.up hb2) p (hsub p hp)) (fun p hp => HQ.out p (hsub p hp)) (by have h8 := ho.cap; rw [List.length_map] at h8; exact h8))
     have hml : (trB g L G Xs b d).length ≤ 100000 := trB_len HKC.out HFI.out.1
     have H1 := Lib.hid (fun W hb => ltrial_any g L G (some ⟨bb, off, none⟩) c Xs b d W (HLX.out W hb))
     have H2 := Lib.hid (fun W hb => ltrial_any g L G (some ⟨mb, 0, none⟩) cm Ms b d W (HLM.out W hb))
     rw [← HGV.out, hnx] at H1
     rw [← HGV.out, hlm] at H2
     have HM2 : True := trivial
     have HM3 : True := trivial
     have HM4 : True := trivial
     obtain ⟨q0, q1, q2⟩ := HAT.out _ HBC.out
     clear HO9
     by_cases hE1 : lgE g L G Xs b = 1
     ·rw [hE1] at H1
      generalize trB g L G Xs b d = M at *
      generalize trB g L G Ms b d = M2 at *
      generalize lgE g L G Ms b = E2 at *
      clear hE1 hml hsub hlm hnx hMs
      go_wp2_with (first
       | (clear HM2; refine wpList_load_is rfl 29 _ rfl (.pointer (some ⟨s0, 0, none⟩)) rfl GV (HLG.out _ HBC.out) ?_)
       | (clear HM3; go_at_call 35; refine (H1.out _ HBC.out).mono ?_; rintro r w5 ⟨⟨A1, c1, rfl, hz1⟩, hb⟩; have HB9 := Lib.hid hb; have hB3 := Lib.hid (HBC.out.trans (hb.mono HBC.out.size)); clear hb HBC; have HBC := hB3; clear hB3; have HZ1 := Lib.hid hz1; clear hz1; obtain ⟨q0, q1, q2⟩ := HAT.out _ HBC.out)
       | (clear HM4; refine wpList_load_is rfl 29 _ rfl (.pointer (some ⟨s0, 0, none⟩)) rfl GV (HLG.out _ HBC.out) ?_)
       | (go_at_call 35; refine (H2.out _ HB9.out).mono ?_; rintro r w5 ⟨⟨A2, c2, rfl, hz2⟩, hb⟩; have HZ3 := Lib.hid (HZ1.out.up hb); have hB3 := Lib.hid (HBC.out.trans (hb.mono HBC.out.size)); clear hb HBC; have HBC := hB3; clear hB3; have HZ2 := Lib.hid hz2; clear hz2))
      go_ret
      exact ⟨by first | rfl | simp, by have h9 := HBW.out _ HBC.out; first | exact h9 | (rw [← HS0.out]; exact h9)⟩
     ·obtain ⟨hs1, hs2⟩ := lg_swap (hi := d) (by rw [← HXS.out]; exact hE1) HPQ.out
      rw [hMs, ← HXS.out] at hs1 hs2
      rw [hs1, hs2] at H2
      generalize trB g L G Xs b d = M at *
      generalize lgE g L G Xs b = E at *
      have z1 : (E == 1) = false := by simp [hE1]
      have HML := Lib.hid hml
      have HSM := Lib.hid (fun A1 A2 c1 c2 W (h1 : BalAt W A1 M) (h2 : BalAt W A2 M) => rsameb_any A1 A2 c1 c2 M M W h1 h2 HML.out HML.out)
      rw [decide_eq_true (rfl : M = M)] at HSM
      clear hE1 hml hsub hlm hnx hMs hs1 hs2
      go_wp2_with (first
       | (clear HM2; refine wpList_load_is rfl 29 _ rfl (.pointer (some ⟨s0, 0, none⟩)) rfl GV (HLG.out _ HBC.out) ?_)
       | (clear HM3; go_at_call 35; refine (H1.out _ HBC.out).mono ?_; rintro r w5 ⟨⟨A1, c1, rfl, hz1⟩, hb⟩; have HB9 := Lib.hid hb; have hB3 := Lib.hid (HBC.out.trans (hb.mono HBC.out.size)); clear hb HBC; have HBC := hB3; clear hB3; have HZ1 := Lib.hid hz1; clear hz1; obtain ⟨q0, q1, q2⟩ := HAT.out _ HBC.out)
       | (clear HM4; refine wpList_load_is rfl 29 _ rfl (.pointer (some ⟨s0, 0, none⟩)) rfl GV (HLG.out _ HBC.out) ?_)
       | (go_at_call 35; refine (H2.out _ HB9.out).mono ?_; rintro r w5 ⟨⟨A2, c2, rfl, hz2⟩, hb⟩; have HZ3 := Lib.hid (HZ1.out.up hb); have hB3 := Lib.hid (HBC.out.trans (hb.mono HBC.out.size)); clear hb HBC; have HBC := hB3; clear hB3; have HZ2 := Lib.hid hz2; clear hz2)
       | (go_at_call 37; refine (HSM.out _ _ _ _ _ HZ3.out HZ2.out).mono ?_; rintro r w5 ⟨rfl, hb⟩; have hB3 := Lib.hid (HBC.out.trans (hb.mono HBC.out.size)); clear hb HBC; have HBC := hB3; clear hB3))
      go_ret
      exact ⟨by first | rfl | simp, by have h9 := HBW.out _ HBC.out; first | exact h9 | (rw [← HS0.out]; exact h9)⟩
  ·have k1d : (y.kind == 3) = false := by simp [hkd]
   have HPQ : Hid (¬ (y.kind = 3 ∧ y.of_ = x.id)) := Lib.hid (fun h => hkd h.1)
   clear hkd
   go_enter Tryz.func11, Tryz.ntmps11
   go_upto_region 6 with (first
    | (go_at_call 29; refine (HAW.out _).mono ?_; rintro e w3 ⟨rfl, hb⟩; have hB3 := Lib.hid (HBC.out.trans (hb.mono HBC.out.size)); clear hb HBC; have HBC := hB3; clear hB3)
    | (clear HM1; refine wpList_load_is rfl 29 _ rfl (.pointer (some ⟨s0, 0, none⟩)) rfl GV (HLG.out _ HBC.out) ?_)
    | (go_at_call 14; refine (HFW.out _ HBC.out).mono ?_; rintro e w4 ⟨rfl, hb⟩; have hB3 := Lib.hid (HBC.out.trans (hb.mono HBC.out.size)); clear hb HBC; have HBC := hB3; clear hB3; obtain ⟨q0, q1, q2⟩ := HAT.out _ HBC.out))
   obtain ⟨r1, r2, r3⟩ := HCX.out _ HBC.out
   go_quiet (fail)
   replace HBC := Lib.hid (below_drewN HBC.out nq)
   generalize World.drewN _ nq = W6 at *
   clear r1 r2 r3
   obtain ⟨B, hB⟩ : ∃ B, W6.heap.size = B := ⟨_, rfl⟩
   have HBB := Lib.hid hB
   obtain ⟨i0, hi, hz1i, hz2i, hz3i⟩ := info_parts infoEx
   have HEMP : Hid (OwnR lyX 46 (W6.alloc (.cells #[] 46)) B (.slice (some ⟨B, 0, none⟩) 0 0) []) := Lib.hid (by rw [← hB]; exact OwnR.empty (Nat.le_refl _))
   have HB7 : Hid (Below W6.heap.size W6 (W6.alloc (.cells #[] 46))) := Lib.hid (below_alloc_new _)
   go_upto_region 9 with (at_builtin; refine wpList_app_row (R := lyX) (v := .slice (some ⟨B, 0, none⟩) 0 0) rfl (.tmp 56) (.tmp 57) 30 rfl i0 _ 80 Tryz.underlying30 hi hz1i hz2i hz3i (by omega) rfl rfl HEMP.out (some ⟨bb, off, none⟩) n c (Xs.map (·.1)) (by rw [List.length_map]; exact HNL.out) rfl ((HXC.out.up HBC.out).up HB7.out) (by simp; omega) (by have := HBB.out; simp; omega) ?_; intro v8 w8 ho8 hg8 hn8; rw [List.nil_append] at ho8; have HO := Lib.hid ho8.out; have hb8 : Below B W6 w8 := (HB7.out.mono (Nat.le_of_eq HBB.out.symm)).grown hg8.out (by have := HBB.out; simp; omega) (fun j hj => Nat.le_of_eq (Option.some.inj hj)); have HB8 := Lib.hid hb8; clear ho8 hg8 hn8 hb8)
   obtain ⟨Am, cm, em, -, hAm⟩ := HO.out.reads
   rw [List.length_map, HNL.out] at em
   subst em
   have hnz3 : 0 < n := by have := HKN.out; omega
   have hAmx : ∃ mb, Am = some ⟨mb, 0, none⟩ := by
    cases Am with
    | none =>
     have h9 := (HO.out.none_nil).1
     have h8 := congrArg List.length h9
     rw [List.length_map, HNL.out] at h8
     simp at h8
     omega
    | some ad =>
     obtain ⟨g9, o9, s9⟩ := ad
     cases s9 with
     | none => obtain ⟨-, h8⟩ := hAm g9 o9 rfl; subst h8; exact ⟨g9, rfl⟩
     | some s9 =>
      exfalso
      rcases HO.out.2 with ⟨h1, _⟩ | ⟨g', cap, cur, h1, _⟩
      ·cases h1
      ·injection h1 with h1 _ _
       injection h1 with h1
       injection h1 with _ _ h1
       cases h1
   obtain ⟨mb, rfl⟩ := hAmx
   clear hAm hnz3
   obtain ⟨E0, hE0⟩ : ∃ E0, Xs.map (·.1) = E0 := ⟨_, rfl⟩
   obtain ⟨E1, hE1⟩ : ∃ E1, E0.set k y = E1 := ⟨_, rfl⟩
   obtain ⟨E2, hE2⟩ : ∃ E2, E1.set k1 x = E2 := ⟨_, rfl⟩
   have HO8 := HO
   rw [hE0] at HO8
   have hl0 : E0.length = n := by rw [← hE0, List.length_map, HNL.out]
   have HIX : Hid (E0[k]? = some x) := Lib.hid (by rw [← hE0, List.getElem?_map, HZX.out]; rfl)
   have HIY0 : E0[k1]? = some y := by rw [← hE0, List.getElem?_map, HZY.out]; rfl
   have HIY : Hid (E1[k1]? = some y) := Lib.hid (by rw [← hE1, List.getElem?_set_ne (by have := HK1.out; omega)]; exact HIY0)
   have HMB : Hid (B ≤ mb) := Lib.hid (HO8.out.lt rfl).1
   have HE2 : Hid (E2 = (P ++ (y, Y) :: (x, X) :: S).map (·.1)) := Lib.hid (by
    rw [← hE2, ← hE1, ← hE0, HXS.out, ← HK1.out]
    simp only [List.map_append, List.map_cons]
    rw [List.set_append_right _ _ (by rw [List.length_map, HPL.out]; exact Nat.le_refl _), List.length_map, HPL.out, Nat.sub_self, List.set_cons_zero, List.set_append_right _ _ (by rw [List.length_map, HPL.out]; omega), List.length_map, HPL.out, Nat.add_sub_cancel_left, List.set_cons_succ, List.set_cons_zero])
   have HW8 : Hid (Below B W6 w8) := HB8
   have HBS : Hid (B ≤ w8.heap.size) := Lib.hid (by have := HB8.out.size; have := HBB.out; omega)
   have HLDX : Hid (∀ W, Below B w8 W → (Instr.loadAt 46 (.pointer (some ⟨bb, off + k * 7, none⟩))).run Tryz.prog W = .ok (etyV x) W) := Lib.hid (fun W hb => (HLXW.out W (HBC.out.trans ((HB8.out.trans hb).mono (by have := HBC.out.size; have := HBB.out; omega)))).1)
   have HLDY : Hid (∀ W, Below B w8 W → (Instr.loadAt 46 (.pointer (some ⟨bb, off + k1 * 7, none⟩))).run Tryz.prog W = .ok (etyV y) W) := Lib.hid (fun W hb => (HLXW.out W (HBC.out.trans ((HB8.out.trans hb).mono (by have := HBC.out.size; have := HBB.out; omega)))).2)
   have HKZ := Lib.hid (And.intro hkz hkz3)
   have HKY := Lib.hid (And.intro hkc1 hkc2)
   have HE1E := Lib.hid hE1
   have HE2E := Lib.hid hE2
   clear hE0 hE1 hE2 HIY0 HO hB
   refine AK.region_facts (Rp := Below0) (Kp := Only (· = mb)) (lgoF bb off n c k k1 mb cm x y) (swJ w8 B mb n cm E0 E1 E2) [[], [], [], [], [62], [], [], [65], [64, 66], [67], [], [], [69, 70], [71], [59, 60], [73, 68], [61, 63], [74, 72]] [15, 17] [[], [], []] [0, 0, 1, 1, 1, 0, 0, 0, 0, 0, 1, 1, 1, 0, 0, 2, 1, 2] [0, 0, 0, 0, 0, 0, 0, 0, 0, 0, 0, 0, 0, 0, 0, 0, 0, 0] [] (fun u => by simp only [lgoF, AK.temps, List.map_cons, List.map_nil, fillL, List.setIfInBounds_toArray, List.set_cons_zero, List.set_cons_succ]; rfl) (by kernel_rfl) (by kernel_rfl) (fun _ _ h => h.size) (fun _ _ h => Only.of h) (swJ.st w8 B mb n cm E0 E1 E2) (⟨HO8.out.up (dc_drew (Below.refl _ _)), (dc_drew (Below.refl _ _)).mono HBS.out⟩) ?_ ?_
   ·refine AK.sc (lim := 0) (lo := 0) rfl rfl rfl rfl ?_ ?_
    ·intro k_ u w_ hk_ hl_ hJ hF K hK
     obtain rfl : k_ = 0 := by omega
     clear hF
     go_simp
     exact hK.out _ _ (Below.refl _ _) (rfl) trivial
    refine AK.sc (lim := 0) (lo := 0) rfl rfl rfl rfl ?_ ?_
    ·intro k_ u w_ hk_ hl_ hJ hF K hK
     obtain rfl : k_ = 0 := by omega
     clear hF
     go_simp
     exact hK.out _ _ (Below.refl _ _) (rfl) trivial
    refine AK.sc (lim := 1) (lo := 0) rfl rfl rfl rfl ?_ ?_
    ·intro k_ u w_ hk_ hl_ hJ hF K hK
     clear hF
     go_simp
     exact hK.out _ _ (Below.refl _ _) (rfl) trivial
    refine AK.sc (lim := 1) (lo := 0) rfl rfl rfl rfl ?_ ?_
    ·intro k_ u w_ hk_ hl_ hJ hF K hK
     clear hF
     go_simp
     exact hK.out _ _ (Below.refl _ _) (rfl) trivial
    refine AK.sc (lim := 1) (lo := 0) rfl rfl rfl rfl ?_ ?_
    ·intro k_ u w_ hk_ hl_ hJ hF K hK
     have h62 : u 62 = .int .i64 (k : Int) := AK.facts_get hF 62 (by simp)
     clear hF
     simp only [h62] at hK ⊢
     clear h62
     obtain ⟨hz_, hx_⟩ := HKZ.out
     obtain ⟨hy_, hw_⟩ := HKY.out
     go_simp
     exact hK.out _ _ (Below.refl _ _) (rfl) trivial
    refine AK.sc (lim := 0) (lo := 0) rfl rfl rfl rfl ?_ ?_
    ·intro k_ u w_ hk_ hl_ hJ hF K hK
     obtain rfl : k_ = 0 := by omega
     clear hF
     go_simp
     exact hK.out _ _ (Below.refl _ _) (rfl) trivial
    refine AK.sc (lim := 0) (lo := 0) rfl rfl rfl rfl ?_ ?_
    ·intro k_ u w_ hk_ hl_ hJ hF K hK
     obtain rfl : k_ = 0 := by omega
     clear hF
     go_simp
     exact hK.out _ _ (Below.refl _ _) (rfl) trivial
    refine AK.sc (lim := 0) (lo := 0) rfl rfl rfl rfl ?_ ?_
    ·intro k_ u w_ hk_ hl_ hJ hF K hK
     obtain rfl : k_ = 0 := by omega
     have h65 : u 65 = .int .i64 (k : Int) := AK.facts_get hF 65 (by simp)
     clear hF
     simp only [h65] at hK ⊢
     clear h65
     obtain ⟨hz_, hx_⟩ := HKZ.out
     obtain ⟨hy_, hw_⟩ := HKY.out
     go_simp
     exact hK.out _ _ (Below.refl _ _) (rfl) trivial
    refine AK.sc (lim := 0) (lo := 0) rfl rfl rfl rfl ?_ ?_
    ·intro k_ u w_ hk_ hl_ hJ hF K hK
     obtain rfl : k_ = 0 := by omega
     have h64 : u 64 = .slice (some ⟨bb, off, none⟩) n c := AK.facts_get hF 64 (by simp)
     have h66 : u 66 = .int .i64 (k1 : Int) := AK.facts_get hF 66 (by simp)
     clear hF
     simp only [h64, h66] at hK ⊢
     clear h64 h66
     obtain ⟨hz_, hx_⟩ := HKZ.out
     obtain ⟨hy_, hw_⟩ := HKY.out
     go_simp
     exact hK.out _ _ (Below.refl _ _) (rfl) trivial
    refine AK.sc (lim := 0) (lo := 0) rfl rfl rfl rfl ?_ ?_
    ·intro k_ u w_ hk_ hl_ hJ hF K hK
     obtain rfl : k_ = 0 := by omega
     have h67 : u 67 = .pointer (some ⟨bb, off + k1 * 7, none⟩) := AK.facts_get hF 67 (by simp)
     clear hF
     simp only [h67] at hK ⊢
     clear h67
     refine wp_load_is 46 _ rfl (.pointer (some ⟨bb, off + k1 * 7, none⟩)) rfl (etyV y) (HLDY.out _ (sw_low hJ)) ?_
     exact hK.out _ _ (Below.refl _ _) rfl trivial
    refine AK.sc (lim := 1) (lo := 0) rfl rfl rfl rfl ?_ ?_
    ·intro k_ u w_ hk_ hl_ hJ hF K hK
     clear hF
     go_simp
     exact hK.out _ _ (Below.refl _ _) (rfl) trivial
    refine AK.sc (lim := 1) (lo := 0) rfl rfl rfl rfl ?_ ?_
    ·intro k_ u w_ hk_ hl_ hJ hF K hK
     clear hF
     go_simp
     exact hK.out _ _ (Below.refl _ _) (rfl) trivial
    refine AK.sc (lim := 1) (lo := 0) rfl rfl rfl rfl ?_ ?_
    ·intro k_ u w_ hk_ hl_ hJ hF K hK
     have h69 : u 69 = .slice (some ⟨bb, off, none⟩) n c := AK.facts_get hF 69 (by simp)
     have h70 : u 70 = .int .i64 (k : Int) := AK.facts_get hF 70 (by simp)
     clear hF
     simp only [h69, h70] at hK ⊢
     clear h69 h70
     obtain ⟨hz_, hx_⟩ := HKZ.out
     obtain ⟨hy_, hw_⟩ := HKY.out
     go_simp
     exact hK.out _ _ (Below.refl _ _) (rfl) trivial
    refine AK.sc (lim := 0) (lo := 0) rfl rfl rfl rfl ?_ ?_
    ·intro k_ u w_ hk_ hl_ hJ hF K hK
     obtain rfl : k_ = 0 := by omega
     have h71 : u 71 = .pointer (some ⟨bb, off + k * 7, none⟩) := AK.facts_get hF 71 (by simp)
     clear hF
     simp only [h71] at hK ⊢
     clear h71
     refine wp_load_is 46 _ rfl (.pointer (some ⟨bb, off + k * 7, none⟩)) rfl (etyV x) (HLDX.out _ (sw_low hJ)) ?_
     exact hK.out _ _ (Below.refl _ _) rfl trivial
    refine AK.sc (lim := 0) (lo := 0) rfl rfl rfl rfl ?_ ?_
    ·intro k_ u w_ hk_ hl_ hJ hF K hK
     obtain rfl : k_ = 0 := by omega
     have h59 : u 59 = .slice (some ⟨mb, 0, none⟩) n cm := AK.facts_get hF 59 (by simp)
     have h60 : u 60 = .int .i64 (k : Int) := AK.facts_get hF 60 (by simp)
     clear hF
     simp only [h59, h60] at hK ⊢
     clear h59 h60
     obtain ⟨hz_, hx_⟩ := HKZ.out
     obtain ⟨hy_, hw_⟩ := HKY.out
     go_simp
     exact hK.out _ _ (Below.refl _ _) (rfl) trivial
    refine AK.ss rfl rfl ?_ ?_
    ·intro u w_ hJ hA_ hF K hK
     have h73 : u 73 = .pointer (some ⟨mb, k * 7, none⟩) := AK.facts_get hF 73 (by simp)
     have h68 : u 68 = etyV y := AK.facts_get hF 68 (by simp)
     clear hF
     simp only [h73, h68] at hK ⊢
     clear h73 h68
     refine wp_store_at 46 _ _ rfl mb (k * 7) rfl (etyC y) rfl (own_there7 hJ.1 HIX.out) (by kernel_rfl) (by kernel_rfl) ?_
     exact hK.out undef _ (swJ.s1 hJ HIX.out HMB.out HE1E.out) (Only.setCells (S := fun b => b = mb) rfl _ _ _) trivial
    refine AK.sc (lim := 1) (lo := 0) rfl rfl rfl rfl ?_ ?_
    ·intro k_ u w_ hk_ hl_ hJ hF K hK
     have h61 : u 61 = .slice (some ⟨mb, 0, none⟩) n cm := AK.facts_get hF 61 (by simp)
     have h63 : u 63 = .int .i64 (k1 : Int) := AK.facts_get hF 63 (by simp)
     clear hF
     simp only [h61, h63] at hK ⊢
     clear h61 h63
     obtain ⟨hz_, hx_⟩ := HKZ.out
     obtain ⟨hy_, hw_⟩ := HKY.out
     go_simp
     exact hK.out _ _ (Below.refl _ _) (rfl) trivial
    refine AK.ss rfl rfl ?_ ?_
    ·intro u w_ hJ hA_ hF K hK
     have h74 : u 74 = .pointer (some ⟨mb, k1 * 7, none⟩) := AK.facts_get hF 74 (by simp)
     have h72 : u 72 = etyV x := AK.facts_get hF 72 (by simp)
     clear hF
     simp only [h74, h72] at hK ⊢
     clear h74 h72
     refine wp_store_at 46 _ _ rfl mb (k1 * 7) rfl (etyC x) rfl (own_there7 hJ.1 HIY.out) (by kernel_rfl) (by kernel_rfl) ?_
     exact hK.out undef _ (swJ.s2 hJ HIY.out HMB.out HE2E.out) (Only.setCells (S := fun b => b = mb) rfl _ _ _) trivial
    exact AK.StepsOk.nil
   ·intro u W9 hJ9 hF
    clear hF
    have HBN : Hid (Below w2.heap.size w2 W9) := Lib.hid (HBC.out.trans ((HB8.out.trans hJ9.2).mono (by have := HBC.out.size; have := HBB.out; omega)))
    have HO9 : Hid (OwnR lyX 46 W9 B (.slice (some ⟨mb, 0, none⟩) n cm) ((P ++ (y, Y) :: (x, X) :: S).map (·.1))) := Lib.hid (by rw [← HE2.out]; exact hJ9.1)
    clear hJ9 HBC
    have HBC := HBN
    clear HLDX HLDY HE2 HE1E HE2E HIX HIY HKZ HKY HB8 HO8 HW8 HEMP HB7 HBS HZX HZY
    obtain ⟨Ms, hMs⟩ : ∃ Ms, P ++ (y, Y) :: (x, X) :: S = Ms := ⟨_, rfl⟩
    have hsub : ∀ p ∈ Ms, p ∈ Xs := by
     rw [← hMs, HXS.out]
     intro p hp
     simp only [List.mem_append, List.mem_cons] at hp ⊢
     rcases hp with h | h | h | h
     ·exact .inl h
     ·exact .inr (.inr (.inl h))
     ·exact .inr (.inl h)
     ·exact .inr (.inr (.inr h))
    have hlm : Ms.length = n := by rw [← HNL.out, HXS.out, ← hMs]; simp
    have hnx : Xs.length = n := HNL.out
    rw [hMs] at HO9
    have HLM : Hid (∀ W, Below W9.heap.size W9 W → LgX W g L G (some ⟨mb, 0, none⟩) cm Ms) := Lib.hid (fun W hb => by
     have hb2 : Below w2.heap.size w2 W := HBC.out.trans (hb.mono HBC.out.size)
     have ho := HO9.out.up hb
     obtain ⟨A7, c7, e7, hr7, -⟩ := ho.reads
     injection e7 with e7 _ _
     exact lgx_of ⟨HFI.out.1, by rw [hlm, ← hnx]; exact HFI.out.2.1, fun p hp => HFI.out.2.2 p (hsub p hp)⟩ (HKC.out.up hb2) HWW.out (by rw [e7]; exact hr7) (fun p hp => (HEC.out.up hb2) p (hsub p hp)) (fun p hp => HQ.out p (hsub p hp)) (by have h8 := ho.cap; rw [List.length_map] at h8; exact h8))
    have hml : (trB g L G Xs b d).length ≤ 100000 := trB_len HKC.out HFI.out.1
    have H1 := Lib.hid (fun W hb => ltrial_any g L G (some ⟨bb, off, none⟩) c Xs b d W (HLX.out W hb))
    have H2 := Lib.hid (fun W hb => ltrial_any g L G (some ⟨mb, 0, none⟩) cm Ms b d W (HLM.out W hb))
    rw [← HGV.out, hnx] at H1
    rw [← HGV.out, hlm] at H2
    have HM2 : True := trivial
    have HM3 : True := trivial
    have HM4 : True := trivial
    obtain ⟨q0, q1, q2⟩ := HAT.out _ HBC.out
    clear HO9
    by_cases hE1 : lgE g L G Xs b = 1
    ·rw [hE1] at H1
     generalize trB g L G Xs b d = M at *
     generalize trB g L G Ms b d = M2 at *
     generalize lgE g L G Ms b = E2 at *
     clear hE1 hml hsub hlm hnx hMs
     go_wp2_with (first
      | (clear HM2; refine wpList_load_is rfl 29 _ rfl (.pointer (some ⟨s0, 0, none⟩)) rfl GV (HLG.out _ HBC.out) ?_)
      | (clear HM3; go_at_call 35; refine (H1.out _ HBC.out).mono ?_; rintro r w5 ⟨⟨A1, c1, rfl, hz1⟩, hb⟩; have HB9 := Lib.hid hb; have hB3 := Lib.hid (HBC.out.trans (hb.mono HBC.out.size)); clear hb HBC; have HBC := hB3; clear hB3; have HZ1 := Lib.hid hz1; clear hz1; obtain ⟨q0, q1, q2⟩ := HAT.out _ HBC.out)
      | (clear HM4; refine wpList_load_is rfl 29 _ rfl (.pointer (some ⟨s0, 0, none⟩)) rfl GV (HLG.out _ HBC.out) ?_)
      | (go_at_call 35; refine (H2.out _ HB9.out).mono ?_; rintro r w5 ⟨⟨A2, c2, rfl, hz2⟩, hb⟩; have HZ3 := Lib.hid (HZ1.out.up hb); have hB3 := Lib.hid (HBC.out.trans (hb.mono HBC.out.size)); clear hb HBC; have HBC := hB3; clear hB3; have HZ2 := Lib.hid hz2; clear hz2))
     go_ret
     exact ⟨by first | rfl | simp, by have h9 := HBW.out _ HBC.out; first | exact h9 | (rw [← HS0.out]; exact h9)⟩
    ·obtain ⟨hs1, hs2⟩ := lg_swap (hi := d) (by rw [← HXS.out]; exact hE1) HPQ.out
     rw [hMs, ← HXS.out] at hs1 hs2
     rw [hs1, hs2] at H2
     generalize trB g L G Xs b d = M at *
     generalize lgE g L G Xs b = E at *
     have z1 : (E == 1) = false := by simp [hE1]
     have HML := Lib.hid hml
     have HSM := Lib.hid (fun A1 A2 c1 c2 W (h1 : BalAt W A1 M) (h2 : BalAt W A2 M) => rsameb_any A1 A2 c1 c2 M M W h1 h2 HML.out HML.out)
     rw [decide_eq_true (rfl : M = M)] at HSM
     clear hE1 hml hsub hlm hnx hMs hs1 hs2
     go_wp2_with (first
      | (clear HM2; refine wpList_load_is rfl 29 _ rfl (.pointer (some ⟨s0, 0, none⟩)) rfl GV (HLG.out _ HBC.out) ?_)
      | (clear HM3; go_at_call 35; refine (H1.out _ HBC.out).mono ?_; rintro r w5 ⟨⟨A1, c1, rfl, hz1⟩, hb⟩; have HB9 := Lib.hid hb; have hB3 := Lib.hid (HBC.out.trans (hb.mono HBC.out.size)); clear hb HBC; have HBC := hB3; clear hB3; have HZ1 := Lib.hid hz1; clear hz1; obtain ⟨q0, q1, q2⟩ := HAT.out _ HBC.out)
      | (clear HM4; refine wpList_load_is rfl 29 _ rfl (.pointer (some ⟨s0, 0, none⟩)) rfl GV (HLG.out _ HBC.out) ?_)
      | (go_at_call 35; refine (H2.out _ HB9.out).mono ?_; rintro r w5 ⟨⟨A2, c2, rfl, hz2⟩, hb⟩; have HZ3 := Lib.hid (HZ1.out.up hb); have hB3 := Lib.hid (HBC.out.trans (hb.mono HBC.out.size)); clear hb HBC; have HBC := hB3; clear hB3; have HZ2 := Lib.hid hz2; clear hz2)
      | (go_at_call 37; refine (HSM.out _ _ _ _ _ HZ3.out HZ2.out).mono ?_; rintro r w5 ⟨rfl, hb⟩; have hB3 := Lib.hid (HBC.out.trans (hb.mono HBC.out.size)); clear hb HBC; have HBC := hB3; clear hB3))
     go_ret
     exact ⟨by first | rfl | simp, by have h9 := HBW.out _ HBC.out; first | exact h9 | (rw [← HS0.out]; exact h9)⟩
open Go.ChangeShapes Go.WideShapes Go.ChangeAt Go.WideMaps Go.WideElems Go.RowKit Go.Joins Go.Deep
theorem open_itri {H : Type} {enc : TypeId × Value → H} {P : Program} {w : World} {base b0 : Nat} {sp : Nat → Bool} {held : Bool} {r : Reach} {t e : TypeId} {f0 f1 f2 : Field} {v : Value} {d : DataW H} {p : List MemPlace} (hs : P.underlying t = some (.struct #[f0, f1, f2])) (h0 : f0.type = e) (h1 : f1.type = e) (h2 : f2.type = e) (hone : oneCellFields P #[f0, f1, f2] = true) (hC : P.cellsOf t = 3)
  (he : P.underlying e = some (.int .i64)) (hv : Value.okWide P w r b0 t v) (h : DataW.Trod enc P w base sp held t v d p) :
  ∃ x y z, v = .agg #[.int .i64 x, .int .i64 y, .int .i64 z] ∧ (Lit.int .i64 x).wf = true ∧ (Lit.int .i64 y).wf = true ∧ (Lit.int .i64 z).wf = true := by
 obtain ⟨v0, v1, v2, y0, y1, y2, n, rfl, _, _, k0, k1, k2⟩ := open_agg3 hs hone hC hv h
 rw [h0] at k0
 rw [h1] at k1
 rw [h2] at k2
 obtain ⟨x, e0, _, w0⟩ := DataW.trod_int he k0
 obtain ⟨y, e1, _, w1⟩ := DataW.trod_int he k1
 obtain ⟨z, e2, _, w2⟩ := DataW.trod_int he k2
 simp at e0 e1 e2
 subst e0 e1 e2
 exact ⟨x, y, z, rfl, w0, w1, w2⟩
open Go.ChangeShapes Go.WideShapes Go.ChangeAt Go.WideMaps Go.WideElems Go.RowKit Go.Deep Go.Joins
section
variable {H : Type} {enc : TypeId × Value → H} {P : Program} {W : World}
theorem open_rowsC {α : Type} (R : Lay α) {T E : TypeId} {fuel : Nat} {cs : List Value} {x : DataW H × List MemPlace} (hT : P.underlying T = some (.slice E)) (hC : P.cellsOf E = R.s) (q : α → Prop)
  (hread : ∀ fuel cs x, DataW.trod enc P W 0 (fun _ => true) true fuel E cs = some x → ∃ a, cs = R.cel a ∧ q a)
  (hf : DataW.trod enc P W 0 (fun _ => true) true fuel T cs = some x) :
  ∃ A len cap L, cs = [.slice A len cap] ∧ L.length = len ∧ len ≤ 9223372036854775807 ∧ len ≤ cap ∧ RowAt R W A L ∧ ∀ a ∈ L, q a := by
 rcases open_slice hT hf with ⟨hcs, -⟩ | ⟨a, len, cap, m, n, D, Pl, hcs, -, hl, hm, hmm, -, hx⟩
 ·exact ⟨none, 0, 0, [], hcs, rfl, by omega, by omega, RowAt.nil, fun a ha => by cases ha⟩
 ·simp only [if_true] at hmm
  subst hmm
  unfold maxLen at hm
  have key : ∀ k, k < len → ∃ y : α, (∀ j v, (R.cel y)[j]? = some v → W.cell? (a.add (k * R.s + j)) = some v) ∧ q y := by
   intro k hk
   obtain ⟨cs', h1, h2⟩ := hx k (by omega)
   rw [hC] at h1
   obtain ⟨_, hlen, hcell⟩ := World.cells?_some h1
   obtain ⟨y, rfl, hq⟩ := hread _ _ _ h2
   refine ⟨y, fun j v hj => ?_, hq⟩
   have hjl : j < (R.cel y).length := (List.getElem?_eq_some_iff.1 hj).1
   have h4 := hcell j (by rw [R.len] at hjl; omega)
   rw [add_add] at h4
   rw [h4, hj]
  obtain ⟨L, hLl, hL⟩ := list_of_all len key
  obtain ⟨b, off, spot⟩ := a
  refine ⟨_, len, _, L, hcs, hLl, by omega, by omega, fun h0 => ?_, fun y hy => ?_⟩
  ·rw [hLl] at h0
   obtain ⟨y0, hy0, hc0, -⟩ := hL 0 h0
   have hz0 := hc0 0 _ (List.getElem?_eq_getElem (by rw [R.len]; exact R.pos))
   have hspot : spot = none := by simpa [Addr.add] using World.cell?_spot hz0
   subst hspot
   have hlt : b < W.heap.size := by
    rcases Nat.lt_or_ge b W.heap.size with hlt | hge
    ·exact hlt
    ·unfold World.cell? at hz0
     rw [show (Addr.add ⟨b, off, none⟩ (0 * R.s + 0)).block = b from by rw [block_add], Array.getElem?_eq_none hge] at hz0
     simp at hz0
   refine ⟨b, off, rfl, hlt, fun j v hj => ?_⟩
   have hjl : j < len * R.s := by
    rw [← hLl, ← R.all_len]
    exact (List.getElem?_eq_some_iff.1 hj).1
   have hs := R.pos
   have hi : j / R.s < len := Nat.div_lt_of_lt_mul (by rw [Nat.mul_comm]; exact hjl)
   obtain ⟨y, hy, hc, -⟩ := hL (j / R.s) hi
   have hr : j % R.s < R.s := Nat.mod_lt _ hs
   have he : j / R.s * R.s + j % R.s = j := by rw [Nat.mul_comm]; exact Nat.div_add_mod _ _
   have h5 := hc (j % R.s) v (by rw [← R.get L (j / R.s) y hy _ hr, he]; exact hj)
   rw [he, Go.WideShapes.add_plain] at h5
   exact h5
  ·obtain ⟨k, hk⟩ := List.getElem?_of_mem hy
   have hkl : k < len := by rw [← hLl]; exact (List.getElem?_eq_some_iff.1 hk).1
   obtain ⟨z, hz, -, hq⟩ := hL k hkl
   rw [hk] at hz
   injection hz with hz
   subst hz
   exact hq
end
section
variable {H : Type} {enc : TypeId × Value → H} {W : World}
set_option maxRecDepth 100000 in
theorem open_ietysC {b0 : Nat} {v : Value} {d : DataW H} {p : List MemPlace} (hval : Value.okWide Tryz.prog W .any b0 30 v) (h : DataW.Trod enc Tryz.prog W 0 (fun _ => true) true 30 v d p) :
  ∃ A len c, v = .slice A len c ∧ ∃ Xs : List (Ety × List Lnk), Xs.length = len ∧ len ≤ 9223372036854775807 ∧ len ≤ c ∧ RowAt lyX W A (Xs.map (·.1)) ∧ ∀ a ∈ Xs, EtyK W a.1 a.2 ∧ a.1.n ≤ 9223372036854775807 ∧ a.1.txt.size ≤ maxLen ∧ EtyW a.1 := by
 obtain ⟨a0, len, cap, rfl⟩ := okWide_slice Tryz.underlying30 hval
 obtain ⟨fuel, hf⟩ := h
 obtain ⟨A, len', c, Xs, hcs, hl, hm, hcp, hr, hq⟩ := open_rowsC (α := Ety × List Lnk) ⟨fun a => etyC a.1, 7, fun _ => rfl, fun a v hv => lyX.one a.1 v hv, by decide⟩ Tryz.underlying30 (by kernel_rfl) (fun a => EtyK W a.1 a.2 ∧ a.1.n ≤ 9223372036854775807 ∧ a.1.txt.size ≤ maxLen ∧ EtyW a.1) (fun _ _ _ h => open_etyC h) hf
 simp [Value.cells] at hcs
 obtain ⟨rfl, rfl, rfl⟩ := hcs
 refine ⟨_, _, _, rfl, Xs, hl, hm, hcp, fun h0 => ?_, hq⟩
 obtain ⟨b, off, e, hlt, hc⟩ := hr (by simpa using h0)
 refine ⟨b, off, e, hlt, fun j v hj => hc j v ?_⟩
 rw [← hj]
 unfold Lay.all
 rw [List.flatMap_map]
 rfl
end
open Go.RowKit
def RevQ (x : Ety) (X : List Lnk) (a b : Int) (e : Ending) (W : World) : Prop := ∃ A c, e = .returned (etyV (revE x a b A c)) ∧ EtyK W (revE x a b A c) (X.map negL)
def revN (x : Ety) (a b : Int) (A : Option Addr) (n c : Nat) : Ety := ⟨a, x.ent, b, 3, x.id, x.txt, A, n, c⟩
theorem rr_build (x : Ety) (a b : Int) (w : World) : (Instr.build 46 #[(0, .int .i64 a), (1, .int .i64 x.ent), (2, .int .i64 b), (3, .int .i64 3), (4, .int .i64 x.id), (5, .string x.txt)]).run Tryz.prog w = .ok (etyV (revN x a b none 0 0)) w := run_build w 46 _ _ (by kernel_rfl)
theorem infoLnk : (Tryz.prog.info? 59).map (fun i => (i.zero, i.size, i.bytes)) = some (some (.agg #[.int .i64 0, .int .i64 0, .int .i64 0]), 3, 24) := by kernel_rfl
structure RvL (x : Ety) (X : List Lnk) (a b : Int) (s0 k : Nat) (W : World) : Prop where
 box : Wh 46 W s0 (etyC x)
 res : Wh 46 W (s0 + 1) [.int .i64 0, .int .i64 0, .int .i64 0, .int .i64 0, .int .i64 0, .string ⟨#[]⟩, .slice none 0 0]
 out : ∃ A c, Wh 46 W (s0 + 2) (etyC (revN x a b A k c)) ∧ OwnR lyL 59 W (s0 + 3) (.slice A k c) ((X.take k).map negL)
theorem RvL.up {x : Ety} {X : List Lnk} {a b : Int} {s0 k : Nat} {W W' : World} (h : RvL x X a b s0 k W) (hb : Below W.heap.size W W') : RvL x X a b s0 k W' := by
 obtain ⟨A, c, h1, h2⟩ := h.out
 exact ⟨h.box.up hb, h.res.up hb, A, c, h1.up hb, h2.up hb⟩
set_option maxRecDepth 100000 in
set_option maxHeartbeats 6400000 in
theorem rrev11_any (x : Ety) (X : List Lnk) (a b : Int) (w : World) (hx : EtyK w x X) (hn : x.n ≤ 1000) : Calls Tryz.prog 25 #[etyV x, .int .i64 a, .int .i64 b] w fun e w' => RevQ x X a b e w' ∧ Below w.heap.size w w' := by
 obtain ⟨i0, hi, hz1, hz2, hz3⟩ := info_parts infoLnk
 obtain ⟨s0, hs0⟩ : ∃ s0, w.heap.size = s0 := ⟨_, rfl⟩
 obtain ⟨w2, hw2⟩ : ∃ w2, (w.alloc (.cells (etyC x).toArray 46)).alloc (.cells #[.int .i64 0, .int .i64 0, .int .i64 0, .int .i64 0, .int .i64 0, .string ⟨#[]⟩, .slice none 0 0] 46) = w2 := ⟨_, rfl⟩
 have hXB : Wh 46 w2 s0 (etyC x) := by rw [← hw2, ← hs0]; exact (Wh.new w _ _).up (below_alloc_new _)
 have HRB : Hid (Wh 46 w2 (s0 + 1) [.int .i64 0, .int .i64 0, .int .i64 0, .int .i64 0, .int .i64 0, .string ⟨#[]⟩, .slice none 0 0]) := Lib.hid (by
  rw [← hw2, ← hs0]
  have h9 := Wh.new (w.alloc (.cells (etyC x).toArray 46)) 46 [.int .i64 0, .int .i64 0, .int .i64 0, .int .i64 0, .int .i64 0, .string ⟨#[]⟩, .slice none 0 0]
  rw [World.size_alloc] at h9
  exact h9)
 have HB2 : Hid (Below s0 w w2) := Lib.hid (by rw [← hw2, ← hs0]; exact below_new (below_alloc_new _) _)
 have hs2 : w2.heap.size = s0 + 2 := by rw [← hw2, ← hs0]; simp
 have HS2 := Lib.hid hs2
 have HXZ := Lib.hid hx.hz
 have HXL := Lib.hid hx.ln
 have HXO := Lib.hid hx.ok
 have p0 := hXB.at 0 _ rfl
 have p1 := hXB.at 1 _ rfl
 have p5 := hXB.at 5 _ rfl
 have HXB := Lib.hid hXB
 have HS0 := Lib.hid hs0
 have HN := Lib.hid hn
 obtain ⟨m, hm⟩ : ∃ m, x.n = m := ⟨_, rfl⟩
 have HMM := Lib.hid hm
 have hw3 : (etyC x).toArray = #[.int .i64 x.id, .int .i64 x.ent, .int .i64 x.day, .int .i64 x.kind, .int .i64 x.of_, .string x.txt, .slice x.A x.n x.c] := rfl
 rw [hw3] at hw2
 have HN3 : Hid (Wh 46 (w2.alloc (.cells #[.int .i64 0, .int .i64 0, .int .i64 0, .int .i64 0, .int .i64 0, .string ⟨#[]⟩, .slice none 0 0] 46)) (s0 + 2) [.int .i64 0, .int .i64 0, .int .i64 0, .int .i64 0, .int .i64 0, .string ⟨#[]⟩, .slice none 0 0]) := Lib.hid (by rw [← hs2]; exact Wh.new w2 _ _)
 clear hx hw3 hXB hm hn
 go_enter Tryz.func25, Tryz.ntmps25
 go_upto_region 2 with (first
  | (refine wpList_build_is rfl 46 _ rfl [(0, .int .i64 a), (1, .int .i64 x.ent), (2, .int .i64 b), (3, .int .i64 3), (4, .int .i64 x.id), (5, .string x.txt)] rfl (etyV (revN x a b none 0 0)) (rr_build x a b _) ?_)
  | (refine wpList_store_wh rfl 46 _ _ rfl (s0 + 2) rfl 46 [.int .i64 0, .int .i64 0, .int .i64 0, .int .i64 0, .int .i64 0, .string ⟨#[]⟩, .slice none 0 0] (etyC (revN x a b none 0 0)) rfl HN3.out rfl (by kernel_rfl) (by kernel_rfl) ?_; intro w3 hr3 ho3 hz3; have hb3 : Below w2.heap.size w2 w3 := only_new (by rw [HS2.out]; exact ho3.out); have HL3 : Hid (RvL x X a b s0 0 w3) := Lib.hid ⟨HXB.out.up hb3, HRB.out.up hb3, none, 0, hr3.out, OwnR.nil⟩; have HB3 := Lib.hid (HB2.out.trans (hb3.mono (by have := HS2.out; omega))); have HT3 : Hid (s0 + 3 ≤ w3.heap.size) := Lib.hid (Nat.le_of_eq (by rw [hz3, World.size_alloc, HS2.out])); clear hr3 ho3 hz3 hb3))
 clear p0 p1 p5 hw2 hs2 HN3 HRB HXB
 go_wp2_with fail
 go_loopg [8] m (fun kx s8 wr => ∃ (k : Nat), s8 = .int .i64 (k : Int) ∧ k ≤ m ∧ m - k ≤ kx ∧ Hid (RvL x X a b s0 k wr) ∧ Hid (Below s0 w wr) ∧ Hid (s0 + 3 ≤ wr.heap.size))
 case atStart => exact ⟨0, rfl, by omega, by omega, HL3, HB3, HT3⟩
 case round =>
  clear HL3 HB3 HT3
  obtain ⟨k, rfl, hk, hkx, HL, HB, HT⟩ := hrel
  have hx6 : wr.cell? ⟨s0, 6, none⟩ = some (.slice x.A m x.c) := by rw [← HMM.out]; exact HL.out.box.at 6 _ rfl
  have hm1000 : m ≤ 1000 := by have := HN.out; have := HMM.out; omega
  by_cases hlt : k < m
  ·have hltz : (k : Int) < (m : Int) := by omega
   obtain ⟨l, hl⟩ : ∃ l, X[k]? = some l := ⟨_, List.getElem?_eq_getElem (by rw [HXL.out, HMM.out]; exact hlt)⟩
   obtain ⟨gb, go, hA, hgl, hrg⟩ := (lnk_row.2 HXZ.out).at hl
   have q0 : wr.cell? ⟨gb, go + k * 3 + 0, none⟩ = some (.int .i64 l.frm) := (HB.out.cell (p := ⟨gb, go + k * 3 + 0, none⟩) (by rw [← HS0.out]; exact hgl)).trans (hrg 0 _ rfl)
   rw [Nat.add_zero] at q0
   have q1 : wr.cell? ⟨gb, go + k * 3 + 1, none⟩ = some (.int .i64 l.tgt) := (HB.out.cell (p := ⟨gb, go + k * 3 + 1, none⟩) (by rw [← HS0.out]; exact hgl)).trans (hrg 1 _ rfl)
   have q2 : wr.cell? ⟨gb, go + k * 3 + 2, none⟩ = some (.int .i64 l.since) := (HB.out.cell (p := ⟨gb, go + k * 3 + 2, none⟩) (by rw [← HS0.out]; exact hgl)).trans (hrg 2 _ rfl)
   have HLK := Lib.hid hl
   rw [hA] at hx6
   clear hl hgl hrg hA
   go_upto_region 7 with fail
   obtain ⟨W5, hW5⟩ : ∃ W5, wr.alloc (.cells #[.int .i64 l.frm, .int .i64 (wrap64 (-l.tgt)), .int .i64 l.since] 59) = W5 := ⟨_, rfl⟩
   have hw5 : Wh 59 W5 wr.heap.size (celL (negL l)) := by rw [← hW5]; exact Wh.new wr _ (celL (negL l))
   have hb5 : Below wr.heap.size wr W5 := by rw [← hW5]; exact below_alloc_new _
   have HL5 := Lib.hid (HL.out.up hb5)
   obtain ⟨A, c, h1, h2⟩ := HL5.out.out
   have HB5 := Lib.hid (HB.out.trans (hb5.mono (by have := HT.out; omega)))
   have HT5 : Hid (s0 + 3 ≤ W5.heap.size) := Lib.hid (Nat.le_trans HT.out hb5.size)
   have t0 := hw5.at 0 _ rfl
   have t1 : W5.cell? ⟨wr.heap.size, 1, none⟩ = some (.int .i64 (wrap64 (-l.tgt))) := hw5.at 1 _ rfl
   have t2 := hw5.at 2 _ rfl
   have o6 : W5.cell? ⟨s0 + 2, 6, none⟩ = some (.slice A k c) := h1.at 6 _ rfl
   have HE5 := Lib.hid h1
   have HR5 := Lib.hid h2
   have HLN : Hid (((X.take k).map negL).length = k) := Lib.hid (by rw [List.length_map, List.length_take, HXL.out, HMM.out]; omega)
   have HB6 := Lib.hid (below_alloc_new (w := W5) (.cells #[.int .i64 l.frm, .int .i64 (wrap64 (-l.tgt)), .int .i64 l.since] 59))
   have HW6 : Hid (Wh 59 (W5.alloc (.cells #[.int .i64 l.frm, .int .i64 (wrap64 (-l.tgt)), .int .i64 l.since] 59)) W5.heap.size (celL (negL l))) := Lib.hid (Wh.new W5 _ (celL (negL l)))
   have HST : Hid ((X.take k).map negL ++ [negL l] = (X.take (k + 1)).map negL) := Lib.hid (by rw [take_succ_at HLK.out, List.map_append]; rfl)
   rw [hW5]
   clear hW5 hw5 hb5 HL HB HT h1 h2 hx6 q0 q1 q2
   go_wp2_with (at_builtin; refine wpList_app_row (R := lyL) rfl (.tmp 36) (.tmp 38) 44 rfl i0 _ 24 Tryz.underlying44 hi hz1 hz2 hz3 (by omega) rfl rfl (HR5.out.up HB6.out) (some ⟨W5.heap.size, 0, none⟩) 1 1 [negL l] rfl rfl (row_one HW6.out) (by have := HLN.out; omega) (by have := HT5.out; simp; omega) ?_; intro v9 w9 hr9 hg9 hn9; rw [HST.out] at hr9; obtain ⟨A9, c9, e9, -, -⟩ := hr9.out.reads; rw [List.length_map, List.length_take, HXL.out, HMM.out, Nat.min_eq_left (by omega : k + 1 ≤ m)] at e9; subst e9; have hon : Only (fun b => (Value.slice A k c).ownBlock = some b) (W5.alloc (.cells #[.int .i64 l.frm, .int .i64 (wrap64 (-l.tgt)), .int .i64 l.since] 59)) w9 := Only.grown hg9.out fun _ hk => hk; have hne : ∀ b, (Value.slice A k c).ownBlock = some b → s0 + 3 ≤ b := fun b hb => (HR5.out.lt hb).1; have he9 := (HE5.out.up HB6.out).only hon (fun h => by have := hne _ h; omega); have y6 := he9.frozen 6; have z6 := he9.at 6 _ rfl; have HE9 := Lib.hid he9; have HX9 := Lib.hid ((HL5.out.box.up HB6.out).only hon (fun h => by have := hne _ h; omega)); have HS9 := Lib.hid ((HL5.out.res.up HB6.out).only hon (fun h => by have := hne _ h; omega)); have HR9 := Lib.hid hr9.out; have HB9 := Lib.hid ((HB5.out.trans (HB6.out.mono (by have := HT5.out; omega))).trans (hon.below (B := s0) (fun b hb => by have := hne _ hb; omega) (by have := HT5.out; simp; omega))); have HT9 : Hid (s0 + 3 ≤ w9.heap.size) := Lib.hid (Nat.le_trans HT5.out (Nat.le_trans HB6.out.size hon.size)); clear hr9 hg9 hn9 hon hne he9)
   have HLN9 : Hid (RvL x X a b s0 (k + 1) (w9.setCell ⟨s0 + 2, 6, none⟩ (.slice A9 (k + 1) c9))) := Lib.hid ⟨HX9.out.same (Below.heap_setCell w9 ⟨s0 + 2, 6, none⟩ _ s0 (by show s0 ≠ s0 + 2; omega)), HS9.out.same (Below.heap_setCell w9 ⟨s0 + 2, 6, none⟩ _ (s0 + 1) (by show s0 + 1 ≠ s0 + 2; omega)), A9, c9, HE9.out.set 6 _, HR9.out.blk fun g hg => Below.heap_setCell w9 ⟨s0 + 2, 6, none⟩ _ g (by have := (HR9.out.lt hg).1; show g ≠ s0 + 2; omega)⟩
   have HBN : Hid (Below s0 w (w9.setCell ⟨s0 + 2, 6, none⟩ (.slice A9 (k + 1) c9))) := Lib.hid (Below.setCell (p := ⟨s0 + 2, 6, none⟩) HB9.out (by show s0 ≤ s0 + 2; omega) _)
   go_roundg (m - (k + 1))
   case measure => omega
   case rel => exact ⟨k + 1, by go_num, by omega, by omega, HLN9, HBN, by rw [World.size_setCell]; exact HT9⟩
  ·obtain rfl : k = m := by omega
   have hltz : ¬ (k : Int) < (k : Int) := by omega
   obtain ⟨A, c, h1, h2⟩ := HL.out.out
   have HRES := Lib.hid HL.out.res
   have HOW := Lib.hid h2
   have HOL : Hid ((Instr.loadAt 46 (.pointer (some ⟨s0 + 2, 0, none⟩))).run Tryz.prog wr = .ok (etyV (revN x a b A k c)) wr) := Lib.hid (h1.rg.load 0 46 (etyC (revN x a b A k c)) rfl _ Tryz.underlying46 rfl (by kernel_rfl))
   have HM1 : True := trivial
   clear h1 h2 HL
   go_wp2_with (first
    | (clear HM1; refine wpList_load_is rfl 46 _ rfl (.pointer (some ⟨s0 + 2, 0, none⟩)) rfl (etyV (revN x a b A k c)) HOL.out ?_)
    | (refine wpList_store_wh rfl 46 _ _ rfl (s0 + 1) rfl 46 [.int .i64 0, .int .i64 0, .int .i64 0, .int .i64 0, .int .i64 0, .string ⟨#[]⟩, .slice none 0 0] (etyC (revN x a b A k c)) rfl HRES.out rfl (by kernel_rfl) (by kernel_rfl) ?_; intro w5 hr5 ho5 hz5))
   refine bodyPost_ret (v := etyV (revN x a b A k c)) (results_cell_mid Tryz.results25 _ _ (s0 + 1) (etyC (revN x a b A k c)) _ rfl hr5.out.range Tryz.underlying46 rfl (by kernel_rfl)) rfl ⟨⟨A, c, ?_, ?_⟩, ?_⟩
   ·unfold revE revN; rw [HMM.out]
   ·have h3 := HOW.out.blk fun g hg => ho5.out.blk g (HOW.out.lt hg).2 (by have := (HOW.out.lt hg).1; show ¬ g = s0 + 1; omega)
    rw [List.take_of_length_le (by rw [HXL.out, HMM.out]; exact Nat.le_refl _)] at h3
    obtain ⟨A7, c7, e7, hr7, -⟩ := h3.reads
    injection e7 with e7 _ _
    refine ⟨by show (X.map negL).length = x.n; rw [List.length_map, HXL.out], by show LnkAt _ A _; rw [e7]; exact lnk_row.1 hr7, okL_neg HXO.out⟩
   ·have h9 := HB.out.trans (ho5.out.below (B := s0) (fun k hk => by have h8 : k = s0 + 1 := hk; omega) (by have := HT.out; omega))
    first | exact h9 | (rw [HS0.out]; exact h9)
end Go.Proofs.YthokdplikidhiaaGreat
