/- Contracts and the law of LedgerPeriods, part 1: what was proved of each, callees first. -/
import Derived.Test.YthokdplikidhiaaGreatLG12
namespace Go.Proofs.YthokdplikidhiaaGreat
open Go.RowKit
theorem lnsU_cut {a lo hi : Int} (hlo : lo ≤ hi + 1) : ∀ {Xs : List Etl} {e : Int}, sumL (lcB a) (lnsU Xs e hi) = sumL (lcB a) (lnsU Xs e (lo - 1)) + (sumL (lcD a lo) (lnsU Xs e hi) + sumL (lcC a lo) (lnsU Xs e hi))
 | [], _ => rfl
 | p :: Xs, e => by
  rw [← List.singleton_append, lnsU_app, lnsU_app, lnsU_one, lnsU_one, sumL_app, sumL_app, sumL_app, sumL_app, lnsU_cut hlo (Xs := Xs) (e := e)]
  have h1 : sumL (lcB a) (lns1 e hi p) = sumL (lcB a) (lns1 e (lo - 1) p) + (sumL (lcD a lo) (lns1 e hi p) + sumL (lcC a lo) (lns1 e hi p)) := by
   by_cases he : p.1.ent = e
   ·by_cases hh : hi < p.1.day
    ·rw [lns1_day hh, lns1_day (hi := lo - 1) (by omega)]; rfl
    ·rw [lns1_yes he hh]
     by_cases hl : lo - 1 < p.1.day
     ·rw [lns1_day hl, sumL_nil, Int.zero_add]
      unfold sumL
      rw [← sumI_add]
      refine sumI_congr fun q hq => ?_
      obtain ⟨l, -, rfl⟩ := List.mem_map.1 hq
      have hlo2 : lo ≤ p.1.day := by omega
      unfold lcD lcC lcB
      by_cases h1 : l.frm = a <;> by_cases h3 : l.tgt < 0 <;> by_cases h4 : 0 < l.tgt <;> simp [h1, hlo2, h3, h4] <;> omega
     ·rw [lns1_yes he hl]
      have z1 : sumL (lcD a lo) (p.2.map fun l => (l, p.1.day)) = 0 := sumI_zero fun q hq => by
       obtain ⟨l, -, rfl⟩ := List.mem_map.1 hq
       unfold lcD
       have : ¬ lo ≤ p.1.day := by omega
       simp [this]
      have z2 : sumL (lcC a lo) (p.2.map fun l => (l, p.1.day)) = 0 := sumI_zero fun q hq => by
       obtain ⟨l, -, rfl⟩ := List.mem_map.1 hq
       unfold lcC
       have : ¬ lo ≤ p.1.day := by omega
       simp [this]
      rw [z1, z2]; omega
   ·rw [lns1_ent he, lns1_ent he]; rfl
  omega
theorem bal_periods {Xs : List Etl} {e a lo hi : Int} (hlo : lo ≤ hi + 1) : balS Xs e a hi = balS Xs e a (lo - 1) + (dbtS Xs e a lo hi + cdtS Xs e a lo hi) := lnsU_cut hlo
theorem tuE_zero {g : Grp} {L : List Acc} {G : List Ent} {Xs : List Etl} {e a p : Int} (h : tuE g L G Xs e a p = 0) : lgE g L G Xs e = 0 ∧ clE g.cy g.cm g.cp p = 0 ∧ knE g L G Xs e a = 0 := by
 unfold tuE at h
 split at h
 ·rename_i h1
  split at h
  ·rename_i h2
   exact ⟨h1, h2, by unfold knE; rw [if_pos h1]; exact h⟩
  ·cases h
 ·rename_i h1; exact absurd h h1
theorem days_of {y m k p : Int} (h : clE y m k p = 0) : pdF y m k p ≤ pdL y m k p + 1 ∧ -25567 ≤ pdF y m k p ∧ pdF y m k p ≤ 84006 := by
 obtain ⟨h1, h2⟩ := clE_yes h
 obtain ⟨h3, h4, -⟩ := cl_month h1 h2
 obtain ⟨-, e1, e2, -⟩ := pd_in h1 h2
 rw [e1, e2]
 have h5 := mfst_mono (S := mno y m + p) (T := mno y m + p + 1) h3 (by omega)
 have h6 := mfst_bd h3 (by omega)
 omega
set_option maxRecDepth 100000 in
set_option maxHeartbeats 12800000 in
theorem law_lper (g : Grp) (L : List Acc) (G : List Ent) (A : Option Addr) (n c : Nat) (Xs : List Etl) (a b d : Int) (w : World) (hk : GrK w g L G) (hw : GrW g L G) (hmx : g.m ≤ 9223372036854775807) (hn : Xs.length = n) (hnm : n ≤ 9223372036854775807) (hcn : n ≤ c) (hX : RowAt lyX w A (Xs.map (·.1))) (hq : ∀ a ∈ Xs, EtyK w a.1 a.2 ∧ a.1.n ≤ 9223372036854775807 ∧ a.1.txt.size ≤ maxLen ∧ EtyW a.1) :
  Calls Tryz.prog 10 #[grpV g, .slice A n c, .agg #[.int .i64 a, .int .i64 b, .int .i64 d]] w fun e w' => e = .returned (.bool true) ∧ Below w.heap.size w w' := by
 have HAW := Lib.hid lawake_any
 obtain ⟨s0, hs0⟩ : ∃ s0, w.heap.size = s0 := ⟨_, rfl⟩
 obtain ⟨w2, hw2⟩ : ∃ w2, (w.alloc (.cells #[.string g.cur, .int .i64 g.cy, .int .i64 g.cm, .int .i64 g.cp, .slice g.A g.n g.c, .int .i64 g.r0, .int .i64 g.r1, .int .i64 g.r2, .int .i64 g.r3, .int .i64 g.r4, .int .i64 g.r5, .int .i64 g.r6, .int .i64 g.r7, .int .i64 g.r8, .int .i64 g.r9, .int .i64 g.r10, .int .i64 g.r11, .int .i64 g.r12, .int .i64 g.r13, .int .i64 g.r14, .slice g.E g.m g.d] 29)).alloc (.cells #[.int .i64 a, .int .i64 b, .int .i64 d] 63) = w2 := ⟨_, rfl⟩
 have HGB : Hid (Wh 29 w2 s0 (grpC g)) := Lib.hid (by rw [← hw2, ← hs0]; exact (Wh.new w 29 (grpC g)).up (below_alloc_new _))
 have HAB : Hid (Wh 63 w2 (s0 + 1) [.int .i64 a, .int .i64 b, .int .i64 d]) := Lib.hid (by
  rw [← hw2, ← hs0]
  have h9 := Wh.new (w.alloc (.cells #[.string g.cur, .int .i64 g.cy, .int .i64 g.cm, .int .i64 g.cp, .slice g.A g.n g.c, .int .i64 g.r0, .int .i64 g.r1, .int .i64 g.r2, .int .i64 g.r3, .int .i64 g.r4, .int .i64 g.r5, .int .i64 g.r6, .int .i64 g.r7, .int .i64 g.r8, .int .i64 g.r9, .int .i64 g.r10, .int .i64 g.r11, .int .i64 g.r12, .int .i64 g.r13, .int .i64 g.r14, .slice g.E g.m g.d] 29)) 63 [.int .i64 a, .int .i64 b, .int .i64 d]
  rw [World.size_alloc] at h9
  exact h9)
 have HB2 : Hid (Below w.heap.size w w2) := Lib.hid (by rw [← hw2]; exact below_new (below_alloc_new _) _)
 have HKC := Lib.hid (hk.up HB2.out)
 have HXC := Lib.hid (hX.up HB2.out)
 have HEC : Hid (EtysK w2 Xs) := Lib.hid (fun p hp => (hq p hp).1.up HB2.out)
 have HQ : Hid (∀ p ∈ Xs, p.1.n ≤ 9223372036854775807 ∧ p.1.txt.size ≤ maxLen ∧ EtyW p.1) := Lib.hid (fun p hp => (hq p hp).2)
 have HWW := Lib.hid hw
 have HS0 := Lib.hid hs0
 have HNL := Lib.hid hn
 have HCN := Lib.hid hcn
 have HBC := Lib.hid (Below.refl w2.heap.size w2)
 have HAT : Hid (∀ W, Below w2.heap.size w2 W → W.cell? ⟨s0 + 1, 0, none⟩ = some (.int .i64 a) ∧ W.cell? ⟨s0 + 1, 1, none⟩ = some (.int .i64 b) ∧ W.cell? ⟨s0 + 1, 2, none⟩ = some (.int .i64 d)) := Lib.hid (fun W h => ⟨(HAB.out.up h).at 0 _ rfl, (HAB.out.up h).at 1 _ rfl, (HAB.out.up h).at 2 _ rfl⟩)
 have HBW : Hid (∀ W, Below w2.heap.size w2 W → Below w.heap.size w W) := Lib.hid (fun W h => HB2.out.trans (h.mono HB2.out.size))
 have HLO : Hid (∀ p ∈ Xs, -9223372036854775808 ≤ p.1.day) := Lib.hid (fun p hp => (bounds_i64 (hq p hp).2.2.2.day).1)
 obtain ⟨GV, hGV⟩ : ∃ GV, GV = grpV g := ⟨_, rfl⟩
 have HGV := Lib.hid hGV
 have HFW := Lib.hid (fun W (h : Below w2.heap.size w2 W) => by have h9 := r12few_any g G A c Xs W (HKC.out.up h).he hk.lg hmx (HXC.out.up h) (HEC.out.up h) (by rw [hn]; exact hnm) (fun p hp => ⟨(hq p hp).2.1, (hq p hp).2.2.1⟩); rw [← hGV, hn] at h9; exact h9)
 have HLG : Hid (∀ w9, Below w2.heap.size w2 w9 → (Instr.loadAt 29 (.pointer (some ⟨s0, 0, none⟩))).run Tryz.prog w9 = .ok GV w9) := Lib.hid (fun w9 h9 => by rw [hGV, grpV_is]; exact (HGB.out.up h9).rg.load 0 29 (grpC g) rfl _ Tryz.underlying29 rfl (by kernel_rfl))
 clear hk hGV hw hX hq hn hmx hnm hcn
 have HM1 : True := trivial
 cases hf : fewX Xs && few10 g G
 ·rw [hf] at HFW
  clear hf
  go_enter Tryz.func10, Tryz.ntmps10
  go_wp2_with (first
   | (go_at_call 29; refine (HAW.out _).mono ?_; rintro e w3 ⟨rfl, hb⟩; have hB3 := Lib.hid (HBC.out.trans (hb.mono HBC.out.size)); clear hb HBC; have HBC := hB3; clear hB3)
   | (clear HM1; refine wpList_load_is rfl 29 _ rfl (.pointer (some ⟨s0, 0, none⟩)) rfl GV (HLG.out _ HBC.out) ?_)
   | (go_at_call 14; refine (HFW.out _ HBC.out).mono ?_; rintro e w4 ⟨rfl, hb⟩; have hB3 := Lib.hid (HBC.out.trans (hb.mono HBC.out.size)); clear hb HBC; have HBC := hB3; clear hB3))
  go_ret
  exact ⟨by first | rfl | simp, by have h9 := HBW.out _ HBC.out; first | exact h9 | (rw [← HS0.out]; exact h9)⟩
 ·have HFI := Lib.hid (lfew_is hf)
  have HFA := Lib.hid (few_amt hf)
  rw [hf] at HFW
  clear hf
  have HLX : Hid (∀ W, Below w2.heap.size w2 W → LgX W g L G A c Xs) := Lib.hid (fun W hb => lgx_of HFI.out (HKC.out.up hb) HWW.out (HXC.out.up hb) (HEC.out.up hb) HQ.out (by rw [HNL.out]; exact HCN.out))
  have H1 := Lib.hid (fun W hb => lmov_any g L G A c Xs a b d W (HLX.out W hb))
  have H2 := Lib.hid (fun hi W hb => lbalance_any g L G A c Xs a b hi W (HLX.out W hb))
  have H3 := Lib.hid (fun W => rfirst7_any g.cy g.cm g.cp d W)
  have H4 := Lib.hid (fun W => rlast7_any g.cy g.cm g.cp d W)
  have HC1 : Hid (∀ W, Below w2.heap.size w2 W → W.cell? ⟨s0, 1, none⟩ = some (.int .i64 g.cy) ∧ W.cell? ⟨s0, 2, none⟩ = some (.int .i64 g.cm) ∧ W.cell? ⟨s0, 3, none⟩ = some (.int .i64 g.cp)) := Lib.hid (fun W hb => ⟨(HGB.out.up hb).at 1 _ rfl, (HGB.out.up hb).at 2 _ rfl, (HGB.out.up hb).at 3 _ rfl⟩)
  rw [← HGV.out, HNL.out] at H1 H2
  have HM2 : True := trivial
  have HM3 : True := trivial
  have HM4 : True := trivial
  have HM5 : True := trivial
  by_cases ht : tuE g L G Xs a b d = 0
  ·obtain ⟨-, hcl, hkn⟩ := tuE_zero ht
   obtain ⟨b1, b2, b3⟩ := days_of hcl
   obtain ⟨t1, t2⟩ := tu_good ht
   have hper := bal_periods (Xs := Xs) (e := a) (a := b) (lo := pdF g.cy g.cm g.cp d) (hi := pdL g.cy g.cm g.cp d) b1
   rw [t1, t2, ht] at H1
   rw [hcl] at H3 H4
   rw [hkn] at H2
   have hlb : ∀ hi, lbN g L G Xs a b hi = wrap64 (balS Xs a b hi) := fun hi => by unfold lbN; rw [if_pos hkn]
   generalize pdF g.cy g.cm g.cp d = fV at *
   generalize pdL g.cy g.cm g.cp d = lV at *
   obtain ⟨fm, hfm⟩ : ∃ fm, fV - 1 = fm := ⟨_, rfl⟩
   have s1 : wrap64 (fV - 1) = fm := by unfold wrap64; omega
   have H5 := Lib.hid (H2.out fm)
   have H6 := Lib.hid (H2.out lV)
   rw [hlb] at H5 H6
   rw [hfm] at hper
   have s3 : wrap64 (wrap64 (balS Xs a b fm) + wrap64 (wrap64 (dbtS Xs a b fV lV) + wrap64 (cdtS Xs a b fV lV))) = wrap64 (balS Xs a b lV) := by
    rw [hper]
    have e1 := wr_emod (balS Xs a b fm)
    have e2 := wr_emod (wrap64 (dbtS Xs a b fV lV) + wrap64 (cdtS Xs a b fV lV))
    have e3 := wr_emod (dbtS Xs a b fV lV)
    have e4 := wr_emod (cdtS Xs a b fV lV)
    refine wr_eq_of ?_
    have f1 : ∀ x, wr x = wrap64 x := fun _ => rfl
    simp only [f1] at e1 e2 e3 e4
    omega
   generalize wrap64 (wrap64 (dbtS Xs a b fV lV) + wrap64 (cdtS Xs a b fV lV)) = nV at *
   generalize wrap64 (balS Xs a b fm) = A0 at *
   generalize wrap64 (balS Xs a b lV) = B0 at *
   have HS3 := Lib.hid s3
   clear hfm hper b1 b2 b3 t1 t2 hcl hkn hlb ht H2
   go_enter Tryz.func10, Tryz.ntmps10
   go_wp2_with (first
    | (go_at_call 29; refine (HAW.out _).mono ?_; rintro e w3 ⟨rfl, hb⟩; have hB3 := Lib.hid (HBC.out.trans (hb.mono HBC.out.size)); clear hb HBC; have HBC := hB3; clear hB3)
    | (clear HM1; refine wpList_load_is rfl 29 _ rfl (.pointer (some ⟨s0, 0, none⟩)) rfl GV (HLG.out _ HBC.out) ?_)
    | (go_at_call 14; refine (HFW.out _ HBC.out).mono ?_; rintro e w4 ⟨rfl, hb⟩; have hB3 := Lib.hid (HBC.out.trans (hb.mono HBC.out.size)); clear hb HBC; have HBC := hB3; clear hB3; obtain ⟨q0, q1, q2⟩ := HAT.out _ HBC.out)
    | (clear HM2; refine wpList_load_is rfl 29 _ rfl (.pointer (some ⟨s0, 0, none⟩)) rfl GV (HLG.out _ HBC.out) ?_)
    | (go_at_call 32; refine (H1.out _ HBC.out).mono ?_; rintro r w5 ⟨rfl, hb⟩; have hB3 := Lib.hid (HBC.out.trans (hb.mono HBC.out.size)); clear hb HBC; have HBC := hB3; clear hB3; obtain ⟨q0, q1, q2⟩ := HAT.out _ HBC.out; obtain ⟨q3, q4, q5⟩ := HC1.out _ HBC.out)
    | (go_at_call 38; refine (H3.out _).mono ?_; rintro r w5 ⟨rfl, hb⟩; have hB3 := Lib.hid (HBC.out.trans (hb.mono HBC.out.size)); clear hb HBC; have HBC := hB3; clear hB3; obtain ⟨q0, q1, q2⟩ := HAT.out _ HBC.out; obtain ⟨q3, q4, q5⟩ := HC1.out _ HBC.out)
    | (go_at_call 39; refine (H4.out _).mono ?_; rintro r w5 ⟨rfl, hb⟩; have hB3 := Lib.hid (HBC.out.trans (hb.mono HBC.out.size)); clear hb HBC; have HBC := hB3; clear hB3; obtain ⟨q0, q1, q2⟩ := HAT.out _ HBC.out; obtain ⟨q3, q4, q5⟩ := HC1.out _ HBC.out)
    | (clear HM3; refine wpList_load_is rfl 29 _ rfl (.pointer (some ⟨s0, 0, none⟩)) rfl GV (HLG.out _ HBC.out) ?_)
    | (clear HM4; go_at_call 30; refine (H5.out _ HBC.out).mono ?_; rintro r w5 ⟨rfl, hb⟩; have hB3 := Lib.hid (HBC.out.trans (hb.mono HBC.out.size)); clear hb HBC; have HBC := hB3; clear hB3; obtain ⟨q0, q1, q2⟩ := HAT.out _ HBC.out; obtain ⟨q3, q4, q5⟩ := HC1.out _ HBC.out)
    | (clear HM5; refine wpList_load_is rfl 29 _ rfl (.pointer (some ⟨s0, 0, none⟩)) rfl GV (HLG.out _ HBC.out) ?_)
    | (go_at_call 30; refine (H6.out _ HBC.out).mono ?_; rintro r w5 ⟨rfl, hb⟩; have hB3 := Lib.hid (HBC.out.trans (hb.mono HBC.out.size)); clear hb HBC; have HBC := hB3; clear hB3))
   go_ret
   exact ⟨by first | rfl | simp | (rw [HS3.out]; simp), by have h9 := HBW.out _ HBC.out; first | exact h9 | (rw [← HS0.out]; exact h9)⟩
  ·obtain ⟨t1, t2⟩ := tu_bad ht
   rw [t1, t2, show wrap64 ((0 : Int) + 0) = 0 from wr_zero] at H1
   generalize tuE g L G Xs a b d = E at *
   have z1 : (E != 0) = true := by simp [ht]
   clear t1 t2 ht
   go_enter Tryz.func10, Tryz.ntmps10
   go_wp2_with (first
    | (go_at_call 29; refine (HAW.out _).mono ?_; rintro e w3 ⟨rfl, hb⟩; have hB3 := Lib.hid (HBC.out.trans (hb.mono HBC.out.size)); clear hb HBC; have HBC := hB3; clear hB3)
    | (clear HM1; refine wpList_load_is rfl 29 _ rfl (.pointer (some ⟨s0, 0, none⟩)) rfl GV (HLG.out _ HBC.out) ?_)
    | (go_at_call 14; refine (HFW.out _ HBC.out).mono ?_; rintro e w4 ⟨rfl, hb⟩; have hB3 := Lib.hid (HBC.out.trans (hb.mono HBC.out.size)); clear hb HBC; have HBC := hB3; clear hB3; obtain ⟨q0, q1, q2⟩ := HAT.out _ HBC.out)
    | (clear HM2; refine wpList_load_is rfl 29 _ rfl (.pointer (some ⟨s0, 0, none⟩)) rfl GV (HLG.out _ HBC.out) ?_)
    | (go_at_call 32; refine (H1.out _ HBC.out).mono ?_; rintro r w5 ⟨rfl, hb⟩; have hB3 := Lib.hid (HBC.out.trans (hb.mono HBC.out.size)); clear hb HBC; have HBC := hB3; clear hB3; obtain ⟨q0, q1, q2⟩ := HAT.out _ HBC.out; obtain ⟨q3, q4, q5⟩ := HC1.out _ HBC.out))
   go_ret
   exact ⟨by first | rfl | simp, by have h9 := HBW.out _ HBC.out; first | exact h9 | (rw [← HS0.out]; exact h9)⟩
end Go.Proofs.YthokdplikidhiaaGreat
