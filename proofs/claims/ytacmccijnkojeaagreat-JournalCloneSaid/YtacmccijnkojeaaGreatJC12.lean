/- Contracts of the functions that the statements reach, part 12: what was proved of each, callees first. -/
import Derived.ArgAppend
import Derived.Lib.SmallJoins
import Derived.Test.YtacmccijnkojeaaGreatJC11
namespace Go.Proofs.YtacmccijnkojeaaGreat
open Go.RowKit
structure SG (M : Nat → Prop) (B : Nat) (j : JD) (Os : List Etl) (jb : Nat) (A : Option Addr) (i : Nat) (W : World) : Prop where
 jk : JK M B W j
 jb : j.b = jb
 es : j.Es = Os.map pe
 rw_ : RowAt lyX W A (Os.map (·.1))
 ln : Os.length ≤ i
set_option maxRecDepth 100000 in
set_option maxHeartbeats 25600000 in
theorem lsameG_any {Os : List Etl} {B i jb : Nat} {j : JD} {M : Nat → Prop} (A : Option Addr) (c : Nat) (a b : Int) (w : World) (h : SG M B j Os jb A i w) (hos : EtysK w Os) (hon : ∀ p ∈ Os, p.1.n ≤ 1000) (hi : i ≤ 1000) (ha : (Lit.int .i64 a).wf = true) :
  Calls Tryz.prog 8 #[.pointer (some ⟨jb, 0, none⟩), .slice A Os.length c, .agg #[.int .i64 a, .int .i64 b]] w fun e w' => e = .returned (.bool true) ∧ Below w.heap.size w w' := by
 have hrow : RowAt lyX w A (Os.map (·.1)) := h.rw_
 obtain ⟨n, hn⟩ : ∃ n, Os.length = n := ⟨_, rfl⟩
 have hni : n ≤ 1000 := by have := h.ln; omega
 have hjn : j.n = n := by
  have h1 := h.jk.len
  rw [h.es, List.length_map] at h1
  omega
 have hpe : pe (fndX j.Xs a) = pe (fndX Os a) := by
  have e : j.Xs.map pe = Os.map pe := h.es
  rw [pe_fnd, pe_fnd, e]
 have hfb : fndB j.Xs a = fndB Os a := by
  have e : j.Xs.map pe = Os.map pe := h.es
  rw [fndB_es, fndB_es, e]
 obtain ⟨s0, hs0⟩ : ∃ s0, w.heap.size = s0 := ⟨_, rfl⟩
 obtain ⟨w2, hw2⟩ : ∃ w2, w.alloc (.cells #[.int .i64 a, .int .i64 b] 32) = w2 := ⟨_, rfl⟩
 have HAB : Hid (Wh 32 w2 s0 [.int .i64 a, .int .i64 b]) := Lib.hid (by rw [← hw2, ← hs0]; exact Wh.new w _ _)
 have HB2 : Hid (Below w.heap.size w w2) := Lib.hid (by rw [← hw2]; exact below_alloc_new _)
 have HS0 := Lib.hid hs0
 have HJ := Lib.hid (h.jk.up HB2.out)
 have HRW := Lib.hid (hrow.up HB2.out)
 have HOS := Lib.hid (hos.up HB2.out)
 have HON := Lib.hid hon
 have HES := Lib.hid h.es
 have HNN := Lib.hid hn
 have HNI := Lib.hid hni
 have HJN := Lib.hid hjn
 have HJB := Lib.hid h.jb
 have HA := Lib.hid ha
 have HOL : Hid (∀ p ∈ Os, p.2.length ≤ 1000) := Lib.hid (fun p hp => by rw [(hos p hp).ln]; exact hon p hp)
 have HGT := Lib.hid (fun W (hb : Below w2.heap.size w2 W) => by have h9 := jget_any j a W (HJ.out.up hb) ha (by omega); rw [HJB.out, hfb] at h9; exact h9)
 have HRG := Lib.hid (fun W (hb : Below w2.heap.size w2 W) => by have h9 := r12get_any A c Os a W (HRW.out.up hb) (by omega); rw [hn] at h9; exact h9)
 have HLN := Lib.hid (fun W (hb : Below w2.heap.size w2 W) => by have h9 := jline_any j a b W (HJ.out.up hb) ha (by omega); rw [HJB.out, show (fndX j.Xs a).2 = (fndX Os a).2 from congrArg PE.ls hpe, lineV_is] at h9; exact h9)
 have HRL := Lib.hid (fun W (hb : Below w2.heap.size w2 W) => by have h9 := r12line_any A c Os a b W (HRW.out.up hb) (HOS.out.up hb) (by omega); rw [hn, lineV_is] at h9; exact h9)
 have HRV := Lib.hid (fun W (hb : Below w2.heap.size w2 W) => by have h9 := jrev_any j a W (HJ.out.up hb) ha; rw [HJB.out, HES.out] at h9; exact h9)
 have HRR0 := Lib.hid (fun W (hb : Below w2.heap.size w2 W) => by have h9 := r12rev_any A c Os a W (HRW.out.up hb) (by omega); rw [hn] at h9; exact h9)
 have HLE0 := Lib.hid (fun W (hb : Below w2.heap.size w2 W) => by have h9 := jlen_any j W (HJ.out.up hb); rw [HJB.out, hjn] at h9; exact h9)
 have HEN0 := Lib.hid (fun W (hb : Below w2.heap.size w2 W) => by have h9 := jents_any j W (HJ.out.up hb) (by omega); rw [HJB.out, HES.out] at h9; exact h9)
 have HSM0 : Hid (∀ A5 c5 n5 (Zs : List Etl) W, Below w2.heap.size w2 W → Zs.length = n5 → Zs.map pe = Os.map pe → RowAt lyX W A5 (Zs.map (·.1)) → EtysK W Zs → Calls Tryz.prog 26 #[.slice A5 n5 c5, .slice A n c] W fun e w' => e = .returned (.bool true) ∧ Below W.heap.size W w') := Lib.hid (fun A5 c5 n5 Zs W hb h1 h2 h3 h4 => by
  have hzl : Zs.length = Os.length := by have := congrArg List.length h2; simpa using this
  have hzn : ∀ p ∈ Zs, p.2.length ≤ 1000 := fun p hp => by
   have h5 : pe p ∈ Os.map pe := by rw [← h2]; exact List.mem_map_of_mem hp
   obtain ⟨q, hq, e⟩ := List.mem_map.1 h5
   rw [show p.2 = q.2 from (congrArg PE.ls e).symm]
   exact HOL.out q hq
  have h9 := r12same_any A5 A c5 c Zs Os W h3 h4 hzn (HRW.out.up hb) (HOS.out.up hb) HOL.out (by omega) (by omega)
  rw [decide_eq_true h2, h1, hn] at h9
  exact h9)
 have HRB0 : Hid ((revO (Os.map pe) a).isSome = decide (revP (Os.map pe) a ≠ 0)) := Lib.hid (by
  have h1 := revP_ne (by rw [← h.es]; exact h.jk.good) (Es := Os.map pe) a
  cases h2 : (revO (Os.map pe) a).isSome with
  | false => rw [h2] at h1; rw [decide_eq_false (fun h3 => by have := h1.1 h3; cases this)]
  | true => rw [decide_eq_true (h1.2 h2)])
 rw [hn]
 obtain ⟨lo, hlo⟩ : ∃ lo, lineP (fndX Os a).2 b = lo := ⟨_, rfl⟩
 obtain ⟨⟨l1, l2, l3⟩, hll⟩ : ∃ l, lo.getD lnk0 = l := ⟨_, rfl⟩
 obtain ⟨lb, hlb⟩ : ∃ lb, linB lo = lb := ⟨_, rfl⟩
 rw [hlo, hll, hlb] at HLN HRL
 obtain ⟨rv, hrv⟩ : ∃ rv, revP (Os.map pe) a = rv := ⟨_, rfl⟩
 obtain ⟨rb, hrb⟩ : ∃ rb, (revO (Os.map pe) a).isSome = rb := ⟨_, rfl⟩
 rw [hrv] at HRR0 HRB0
 rw [hrv, hrb] at HRV
 rw [hrb] at HRB0
 have HYN := Lib.hid (fndX_n HJ.out a)
 have HPE := Lib.hid hpe
 have hyes := fndX_yes (Xs := Os) (id := a)
 have hno := fndX_no (Xs := Os) (id := a)
 have hgp : getP (Os.map pe) a = if idxP (Os.map pe) a < n then (idxP (Os.map pe) a : Int) else -1 := by unfold getP; rw [List.length_map, hn]
 have hfd : fndB Os a = decide (idxP (Os.map pe) a < n) := by unfold fndB; rw [hn]
 rw [hgp] at HRG
 rw [hfd] at HGT hyes hno
 obtain ⟨Y0, hY0⟩ : ∃ Y0, fndX j.Xs a = Y0 := ⟨_, rfl⟩
 rw [hY0] at HGT HYN HPE
 obtain ⟨y0, Y⟩ := Y0
 have q0 := HAB.out.at 0 _ rfl
 clear h hrow hos hon hni hjn hpe hfb hlo hll hlb hrv hrb hgp hfd hY0 ha hi hn
 have HM1 : True := trivial
 have HM2 : True := trivial
 have HM3 : True := trivial
 by_cases hf : idxP (Os.map pe) a < n
 ·have hdf : decide (idxP (Os.map pe) a < n) = true := decide_eq_true hf
  rw [hdf] at HGT
  rw [if_pos hf] at HRG
  have hz := hyes hdf
  obtain ⟨k, hk⟩ : ∃ k, idxP (Os.map pe) a = k := ⟨_, rfl⟩
  rw [hk] at hz HRG hf
  obtain ⟨Z0, hZ0⟩ : ∃ Z0, fndX Os a = Z0 := ⟨_, rfl⟩
  rw [hZ0] at hz HPE
  obtain ⟨z, Z⟩ := Z0
  have hzm := List.mem_of_getElem? hz
  have hym : (Os.map (·.1))[k]? = some z := by rw [List.getElem?_map, hz]; rfl
  obtain ⟨bb, off, hA, hbl, hrg⟩ := HRW.out.at hym
  subst hA
  have HZK := Lib.hid (HOS.out _ hzm)
  have HZN : Hid (z.n ≤ 1000) := Lib.hid (HON.out _ hzm)
  have HKZ : Hid ((k : Int) < (n : Int)) := Lib.hid (by omega)
  obtain ⟨ZV, hZV⟩ : ∃ ZV, ZV = etyV z := ⟨_, rfl⟩
  have HZV := Lib.hid hZV
  have HLZ0 : Hid (∀ W, Below w2.heap.size w2 W → (Instr.loadAt 42 (.pointer (some ⟨bb, off + k * 7, none⟩))).run Tryz.prog W = .ok ZV W) := Lib.hid (fun W hW => by rw [hZV, etyV_is]; exact run_loadAt_mid W bb (off + k * 7) 42 (etyC z) _ (fun jj v hv => (hW.cell (p := ⟨bb, off + k * 7 + jj, none⟩) hbl).trans (hrg jj v hv)) Tryz.underlying42 rfl (by kernel_rfl))
  clear hyes hno hdf hz hk hZ0 hzm hym hbl hrg hf hZV
  go_enter Tryz.func8, Tryz.ntmps8
  go_upto_region 3 with (first
   | (go_at_call 19; refine (HGT.out _ (Below.refl _ _)).mono ?_; rintro e w3 ⟨⟨A1, c1, rfl, hk1⟩, hb⟩; have HK1 := Lib.hid hk1; have HB3 := Lib.hid hb; clear hk1 hb; obtain ⟨s3, hs3⟩ : ∃ s3, w3.heap.size = s3 := ⟨_, rfl⟩; have HS3 := Lib.hid hs3)
   | (clear HM1; refine wpList_store_wh rfl 42 _ _ rfl s3 rfl 42 [.int .i64 0, .int .i64 0, .int .i64 0, .int .i64 0, .int .i64 0, .string ⟨#[]⟩, .slice none 0 0] (etyC (y0.at A1 c1)) rfl (by rw [← HS3.out]; exact Wh.new w3 42 [.int .i64 0, .int .i64 0, .int .i64 0, .int .i64 0, .int .i64 0, .string ⟨#[]⟩, .slice none 0 0]) rfl (by kernel_rfl) (by kernel_rfl) ?_; intro w5 hr5 ho5 hz5; have hb5 : Below w3.heap.size w3 w5 := only_new (by rw [HS3.out]; exact ho5.out); have HR5 := Lib.hid hr5.out; have HB5 := Lib.hid (HB3.out.trans (hb5.mono HB3.out.size)); have HK5 := Lib.hid (HK1.out.up hb5); have q5 := (HAB.out.up HB5.out).at 0 _ rfl; clear hr5 ho5 hz5 hb5)
   | (go_at_call 20; refine (HRG.out _ HB5.out).mono ?_; rintro e w6 ⟨rfl, hW⟩; subst hW))
  obtain ⟨YV, hYV⟩ : ∃ YV, YV = etyV (y0.at A1 c1) := ⟨_, rfl⟩
  have HYV := Lib.hid hYV
  have HLY : Hid (∀ W, Below w5.heap.size w5 W → (Instr.loadAt 42 (.pointer (some ⟨s3, 0, none⟩))).run Tryz.prog W = .ok YV W) := Lib.hid (fun W h => by rw [hYV, etyV_is]; exact (HR5.out.up h).rg.load 0 42 (etyC (y0.at A1 c1)) rfl _ Tryz.underlying42 rfl (by kernel_rfl))
  clear hYV
  have HEQ : Hid (∀ W, Below w5.heap.size w5 W → Calls Tryz.prog 21 #[YV, ZV] W fun e w' => e = .returned (.bool true) ∧ Below W.heap.size W w') := Lib.hid (fun W hW => by
   have h9 := r11eq_any (y0.at A1 c1) z Y Z W (HK5.out.up hW) (HZK.out.up (HB5.out.trans (hW.mono HB5.out.size))) HYN.out.1 HZN.out
   rw [show eqB (pe (y0.at A1 c1, Y)) (pe (z, Z)) = true from eqB_iff.2 HPE.out, ← HYV.out, ← HZV.out] at h9
   exact h9)
  have HLZ : Hid (∀ W, Below w5.heap.size w5 W → (Instr.loadAt 42 (.pointer (some ⟨bb, off + k * 7, none⟩))).run Tryz.prog W = .ok ZV W) := Lib.hid (fun W hW => HLZ0.out W (HB5.out.trans (hW.mono HB5.out.size)))
  refine AK.region_facts (Rp := Below0) (Kp := Below0) (smFa bb off n c s3 k YV ZV) (fun _ _ W => Below w5.heap.size w5 W) [[], [], [28], [27, 29], [30], [31], [32, 31], [33], [33], [33], [35, 36, 33], [37, 33], [34, 38, 33], [39, 33], [33, 40, 31], [31, 41], [42], [43], [44, 43], [45, 43], [46], [46], [46], [46], [46, 50, 43], [43, 51]] [] [[]] [0, 0, 0, 0, 0, 0, 0, 0, 0, 0, 0, 0, 0, 0, 0, 0, 0, 0, 0, 0, 0, 0, 0, 0, 0, 0] [0, 0, 0, 0, 0, 0, 0, 0, 0, 0, 0, 0, 0, 0, 0, 0, 0, 0, 0, 0, 0, 0, 0, 0, 0, 0] [] (fun u => by simp only [smFa, AK.temps, List.map_cons, List.map_nil, fillL, List.setIfInBounds_toArray, List.set_cons_zero, List.set_cons_succ]; rfl) (by kernel_rfl) (by kernel_rfl) (fun _ _ h => h.size) (fun _ _ h => h) (fun _ _ _ _ hb h => h.trans (hb.mono h.size)) (dc_drew (Below.refl _ _)) ?_ ?_
  ·refine AK.sc (lim := 0) (lo := 0) rfl rfl rfl rfl ?_ ?_
   ·intro k_ u w_ hk_ hl_ hJ hF K hK
    clear hF
    go_simp
    exact hK.out _ _ bR (rfl) trivial
   refine AK.sc (lim := 0) (lo := 0) rfl rfl rfl rfl ?_ ?_
   ·intro k_ u w_ hk_ hl_ hJ hF K hK
    clear hF
    go_simp
    exact hK.out _ _ bR (rfl) trivial
   refine AK.sc (lim := 0) (lo := 0) rfl rfl rfl rfl ?_ ?_
   ·intro k_ u w_ hk_ hl_ hJ hF K hK
    have h28 : u 28 = .int .i64 (k : Int) := AK.facts_get hF 28 (by simp)
    clear hF
    simp only [h28] at hK ⊢
    clear h28
    go_simp
    exact hK.out _ _ bR (rfl) trivial
   refine AK.sc (lim := 0) (lo := 0) rfl rfl rfl rfl ?_ ?_
   ·intro k_ u w_ hk_ hl_ hJ hF K hK
    have h27 : u 27 = .bool true := AK.facts_get hF 27 (by simp)
    have h29 : u 29 = .bool true := AK.facts_get hF 29 (by simp)
    clear hF
    simp only [h27, h29] at hK ⊢
    clear h27 h29
    go_simp
    exact hK.out _ _ bR (rfl) trivial
   refine AK.sc (lim := 0) (lo := 0) rfl rfl rfl rfl ?_ ?_
   ·intro k_ u w_ hk_ hl_ hJ hF K hK
    have h30 : u 30 = .bool false := AK.facts_get hF 30 (by simp)
    clear hF
    simp only [h30] at hK ⊢
    clear h30
    go_simp
    exact hK.out _ _ bR (rfl) trivial
   refine AK.sc (lim := 0) (lo := 0) rfl rfl rfl rfl ?_ ?_
   ·intro k_ u w_ hk_ hl_ hJ hF K hK
    have h31 : u 31 = .bool false := AK.facts_get hF 31 (by simp)
    clear hF
    simp only [h31] at hK ⊢
    clear h31
    go_simp
    exact hK.out _ _ bR (rfl) trivial
   refine AK.sc (lim := 0) (lo := 0) rfl rfl rfl rfl ?_ ?_
   ·intro k_ u w_ hk_ hl_ hJ hF K hK
    have h32 : u 32 = .bool true := AK.facts_get hF 32 (by simp)
    have h31 : u 31 = .bool false := AK.facts_get hF 31 (by simp)
    clear hF
    simp only [h32, h31] at hK ⊢
    clear h32 h31
    go_simp
    exact hK.out _ _ bR (rfl) trivial
   refine AK.sc (lim := 0) (lo := 0) rfl rfl rfl rfl ?_ ?_
   ·intro k_ u w_ hk_ hl_ hJ hF K hK
    have h33 : u 33 = .bool true := AK.facts_get hF 33 (by simp)
    clear hF
    simp only [h33] at hK ⊢
    clear h33
    refine wp_load_is 42 _ rfl (.pointer (some ⟨s3, 0, none⟩)) rfl YV (HLY.out _ hJ) ?_
    exact hK.out _ _ bR rfl trivial
   refine AK.sc (lim := 0) (lo := 0) rfl rfl rfl rfl ?_ ?_
   ·intro k_ u w_ hk_ hl_ hJ hF K hK
    have h33 : u 33 = .bool true := AK.facts_get hF 33 (by simp)
    clear hF
    simp only [h33] at hK ⊢
    clear h33
    go_simp
    exact hK.out _ _ bR (rfl) trivial
   refine AK.sc (lim := 0) (lo := 0) rfl rfl rfl rfl ?_ ?_
   ·intro k_ u w_ hk_ hl_ hJ hF K hK
    have h33 : u 33 = .bool true := AK.facts_get hF 33 (by simp)
    clear hF
    simp only [h33] at hK ⊢
    clear h33
    go_simp
    exact hK.out _ _ bR (rfl) trivial
   refine AK.sc (lim := 0) (lo := 0) rfl rfl rfl rfl ?_ ?_
   ·intro k_ u w_ hk_ hl_ hJ hF K hK
    have h35 : u 35 = .slice (some ⟨bb, off, none⟩) n c := AK.facts_get hF 35 (by simp)
    have h36 : u 36 = .int .i64 (k : Int) := AK.facts_get hF 36 (by simp)
    have h33 : u 33 = .bool true := AK.facts_get hF 33 (by simp)
    clear hF
    simp only [h35, h36, h33] at hK ⊢
    clear h35 h36 h33
    have hz_ := HKZ.out
    go_simp
    exact hK.out _ _ bR (rfl) trivial
   refine AK.sc (lim := 0) (lo := 0) rfl rfl rfl rfl ?_ ?_
   ·intro k_ u w_ hk_ hl_ hJ hF K hK
    have h37 : u 37 = .pointer (some ⟨bb, off + k * 7, none⟩) := AK.facts_get hF 37 (by simp)
    have h33 : u 33 = .bool true := AK.facts_get hF 33 (by simp)
    clear hF
    simp only [h37, h33] at hK ⊢
    clear h37 h33
    refine wp_load_is 42 _ rfl (.pointer (some ⟨bb, off + k * 7, none⟩)) rfl ZV (HLZ.out _ hJ) ?_
    exact hK.out _ _ bR rfl trivial
   refine AK.sc (lim := 0) (lo := 0) rfl rfl rfl rfl ?_ ?_
   ·intro k_ u w_ hk_ hl_ hJ hF K hK
    have h34 : u 34 = YV := AK.facts_get hF 34 (by simp)
    have h38 : u 38 = ZV := AK.facts_get hF 38 (by simp)
    have h33 : u 33 = .bool true := AK.facts_get hF 33 (by simp)
    clear hF
    simp only [h34, h38, h33] at hK ⊢
    clear h34 h38 h33
    go_simp
    refine (HEQ.out _ hJ).mono ?_
    rintro r w6 ⟨rfl, hb6⟩
    exact hK.out _ _ hb6 rfl trivial
   refine AK.sc (lim := 0) (lo := 0) rfl rfl rfl rfl ?_ ?_
   ·intro k_ u w_ hk_ hl_ hJ hF K hK
    have h39 : u 39 = .bool true := AK.facts_get hF 39 (by simp)
    have h33 : u 33 = .bool true := AK.facts_get hF 33 (by simp)
    clear hF
    simp only [h39, h33] at hK ⊢
    clear h39 h33
    go_simp
    exact hK.out _ _ bR (rfl) trivial
   refine AK.sc (lim := 0) (lo := 0) rfl rfl rfl rfl ?_ ?_
   ·intro k_ u w_ hk_ hl_ hJ hF K hK
    have h33 : u 33 = .bool true := AK.facts_get hF 33 (by simp)
    have h40 : u 40 = .bool false := AK.facts_get hF 40 (by simp)
    have h31 : u 31 = .bool false := AK.facts_get hF 31 (by simp)
    clear hF
    simp only [h33, h40, h31] at hK ⊢
    clear h33 h40 h31
    go_simp
    exact hK.out _ _ bR (rfl) trivial
   refine AK.sc (lim := 0) (lo := 0) rfl rfl rfl rfl ?_ ?_
   ·intro k_ u w_ hk_ hl_ hJ hF K hK
    have h31 : u 31 = .bool false := AK.facts_get hF 31 (by simp)
    have h41 : u 41 = .bool false := AK.facts_get hF 41 (by simp)
    clear hF
    simp only [h31, h41] at hK ⊢
    clear h31 h41
    go_simp
    exact hK.out _ _ bR (rfl) trivial
   refine AK.sc (lim := 0) (lo := 0) rfl rfl rfl rfl ?_ ?_
   ·intro k_ u w_ hk_ hl_ hJ hF K hK
    have h42 : u 42 = .bool false := AK.facts_get hF 42 (by simp)
    clear hF
    simp only [h42] at hK ⊢
    clear h42
    go_simp
    exact hK.out _ _ bR (rfl) trivial
   refine AK.sc (lim := 0) (lo := 0) rfl rfl rfl rfl ?_ ?_
   ·intro k_ u w_ hk_ hl_ hJ hF K hK
    have h43 : u 43 = .bool false := AK.facts_get hF 43 (by simp)
    clear hF
    simp only [h43] at hK ⊢
    clear h43
    go_simp
    exact hK.out _ _ bR (rfl) trivial
   refine AK.sc (lim := 0) (lo := 0) rfl rfl rfl rfl ?_ ?_
   ·intro k_ u w_ hk_ hl_ hJ hF K hK
    have h44 : u 44 = .bool true := AK.facts_get hF 44 (by simp)
    have h43 : u 43 = .bool false := AK.facts_get hF 43 (by simp)
    clear hF
    simp only [h44, h43] at hK ⊢
    clear h44 h43
    go_simp
    exact hK.out _ _ bR (rfl) trivial
   refine AK.sc (lim := 0) (lo := 0) rfl rfl rfl rfl ?_ ?_
   ·intro k_ u w_ hk_ hl_ hJ hF K hK
    have h45 : u 45 = .bool false := AK.facts_get hF 45 (by simp)
    have h43 : u 43 = .bool false := AK.facts_get hF 43 (by simp)
    clear hF
    simp only [h45, h43] at hK ⊢
    clear h45 h43
    go_simp
    exact hK.out _ _ bR (rfl) trivial
   refine AK.sc (lim := 0) (lo := 0) rfl rfl rfl rfl ?_ ?_
   ·intro k_ u w_ hk_ hl_ hJ hF K hK
    have h46 : u 46 = .bool false := AK.facts_get hF 46 (by simp)
    clear hF
    simp only [h46] at hK ⊢
    clear h46
    go_simp
    exact hK.out _ _ bR (rfl) trivial
   refine AK.sc (lim := 0) (lo := 0) rfl rfl rfl rfl ?_ ?_
   ·intro k_ u w_ hk_ hl_ hJ hF K hK
    have h46 : u 46 = .bool false := AK.facts_get hF 46 (by simp)
    clear hF
    simp only [h46] at hK ⊢
    clear h46
    go_simp
    exact hK.out _ _ bR (rfl) trivial
   refine AK.sc (lim := 0) (lo := 0) rfl rfl rfl rfl ?_ ?_
   ·intro k_ u w_ hk_ hl_ hJ hF K hK
    have h46 : u 46 = .bool false := AK.facts_get hF 46 (by simp)
    clear hF
    simp only [h46] at hK ⊢
    clear h46
    go_simp
    exact hK.out _ _ bR (rfl) trivial
   refine AK.sc (lim := 0) (lo := 0) rfl rfl rfl rfl ?_ ?_
   ·intro k_ u w_ hk_ hl_ hJ hF K hK
    have h46 : u 46 = .bool false := AK.facts_get hF 46 (by simp)
    clear hF
    simp only [h46] at hK ⊢
    clear h46
    go_simp
    exact hK.out _ _ bR (rfl) trivial
   refine AK.sc (lim := 0) (lo := 0) rfl rfl rfl rfl ?_ ?_
   ·intro k_ u w_ hk_ hl_ hJ hF K hK
    have h46 : u 46 = .bool false := AK.facts_get hF 46 (by simp)
    have h50 : u 50 = undef := AK.facts_get hF 50 (by simp)
    have h43 : u 43 = .bool false := AK.facts_get hF 43 (by simp)
    clear hF
    simp only [h46, h50, h43] at hK ⊢
    clear h46 h50 h43
    go_simp
    exact hK.out _ _ bR (rfl) trivial
   refine AK.sc (lim := 0) (lo := 0) rfl rfl rfl rfl ?_ ?_
   ·intro k_ u w_ hk_ hl_ hJ hF K hK
    have h43 : u 43 = .bool false := AK.facts_get hF 43 (by simp)
    have h51 : u 51 = .bool false := AK.facts_get hF 51 (by simp)
    clear hF
    simp only [h43, h51] at hK ⊢
    clear h43 h51
    go_simp
    exact hK.out _ _ bR (rfl) trivial
   exact AK.StepsOk.nil
  ·intro u W9 hJ9 hF
   have h52 : u 52 = .bool false := AK.facts_get hF 52 (by simp [smFa, AK.temps])
   clear hF
   have HB9 := Lib.hid (HB5.out.trans (hJ9.mono HB5.out.size))
   simp only [h52]
   clear hJ9 h52
   have q6 := (HAB.out.up HB9.out).at 0 _ rfl
   have q7 := (HAB.out.up HB9.out).at 1 _ rfl
   have HMa : True := trivial
   have HMb : True := trivial
   go_upto_region 8 with (first
    | (go_at_call 22; refine (HLN.out _ HB9.out).mono ?_; rintro e w10 ⟨rfl, hb⟩; have HB10 := Lib.hid (HB9.out.trans (hb.mono HB9.out.size)); clear hb; obtain ⟨s10, hs10⟩ : ∃ s10, w10.heap.size = s10 := ⟨_, rfl⟩; have HS10 := Lib.hid hs10)
    | (clear HMa; refine wpList_store_wh rfl 46 _ _ rfl s10 rfl 46 [.int .i64 0, .int .i64 0, .int .i64 0] [.int .i64 l1, .int .i64 l2, .int .i64 l3] rfl (by rw [← HS10.out]; exact Wh.new w10 46 [.int .i64 0, .int .i64 0, .int .i64 0]) rfl (by kernel_rfl) (by kernel_rfl) ?_; intro w11 hr11 ho11 hz11; have hb11 : Below w10.heap.size w10 w11 := only_new (by rw [HS10.out]; exact ho11.out); have HR11 := Lib.hid hr11.out; have HB11 := Lib.hid (HB10.out.trans (hb11.mono HB10.out.size)); have q8 := (HAB.out.up HB11.out).at 0 _ rfl; have q9 := (HAB.out.up HB11.out).at 1 _ rfl; clear hr11 ho11 hz11 hb11)
    | (go_at_call 23; refine (HRL.out _ HB11.out).mono ?_; rintro e w12 ⟨rfl, hb⟩; have HB12 := Lib.hid (HB11.out.trans (hb.mono HB11.out.size)); have HR12 := Lib.hid (HR11.out.up hb); clear hb; obtain ⟨s12, hs12⟩ : ∃ s12, w12.heap.size = s12 := ⟨_, rfl⟩; have HS12 := Lib.hid hs12)
    | (clear HMb; refine wpList_store_wh rfl 46 _ _ rfl s12 rfl 46 [.int .i64 0, .int .i64 0, .int .i64 0] [.int .i64 l1, .int .i64 l2, .int .i64 l3] rfl (by rw [← HS12.out]; exact Wh.new w12 46 [.int .i64 0, .int .i64 0, .int .i64 0]) rfl (by kernel_rfl) (by kernel_rfl) ?_; intro w13 hr13 ho13 hz13; have hb13 : Below w12.heap.size w12 w13 := only_new (by rw [HS12.out]; exact ho13.out); have HR13 := Lib.hid hr13.out; have HR14 := Lib.hid (HR12.out.up hb13); have HB13 := Lib.hid (HB12.out.trans (hb13.mono HB12.out.size)); have qa := (HAB.out.up HB13.out).at 0 _ rfl; clear hr13 ho13 hz13 hb13)
    | (go_at_call 24; refine (HRV.out _ HB13.out).mono ?_; rintro e w14 ⟨rfl, hW⟩; subst hW))
   have HUP : Hid (∀ W, Below w13.heap.size w13 W → Below w2.heap.size w2 W) := Lib.hid (fun W h => HB13.out.trans (h.mono HB13.out.size))
   have HL10 : Hid (∀ W, Below w13.heap.size w13 W → (Instr.loadAt 46 (.pointer (some ⟨s10, 0, none⟩))).run Tryz.prog W = .ok (.agg #[.int .i64 l1, .int .i64 l2, .int .i64 l3]) W) := Lib.hid (fun W h => (HR14.out.up h).rg.load 0 46 [.int .i64 l1, .int .i64 l2, .int .i64 l3] rfl _ Tryz.underlying46 rfl (by kernel_rfl))
   have HL12 : Hid (∀ W, Below w13.heap.size w13 W → (Instr.loadAt 46 (.pointer (some ⟨s12, 0, none⟩))).run Tryz.prog W = .ok (.agg #[.int .i64 l1, .int .i64 l2, .int .i64 l3]) W) := Lib.hid (fun W h => (HR13.out.up h).rg.load 0 46 [.int .i64 l1, .int .i64 l2, .int .i64 l3] rfl _ Tryz.underlying46 rfl (by kernel_rfl))
   have HCA : Hid (∀ W, Below w13.heap.size w13 W → W.cell? ⟨s0, 0, none⟩ = some (.int .i64 a)) := Lib.hid (fun W h => (HAB.out.up (HUP.out W h)).at 0 _ rfl)
   have HRR := Lib.hid (fun W (h : Below w13.heap.size w13 W) => HRR0.out W (HUP.out W h))
   have HLE := Lib.hid (fun W (h : Below w13.heap.size w13 W) => HLE0.out W (HUP.out W h))
   have HEN := Lib.hid (fun W (h : Below w13.heap.size w13 W) => HEN0.out W (HUP.out W h))
   have HSM : Hid (∀ A5 c5 n5 (Zs : List Etl) W, Below w13.heap.size w13 W → Zs.length = n5 → Zs.map pe = Os.map pe → RowAt lyX W A5 (Zs.map (·.1)) → EtysK W Zs → Calls Tryz.prog 26 #[.slice A5 n5 c5, .slice (some ⟨bb, off, none⟩) n c] W fun e w' => e = .returned (.bool true) ∧ Below W.heap.size W w') := Lib.hid (fun A5 c5 n5 Zs W h => HSM0.out A5 c5 n5 Zs W (HUP.out W h))
   have HRB : Hid (Value.bool (decide (rv ≠ 0)) = Value.bool rb) := Lib.hid (by rw [HRB0.out])
   have hrbz : rb = (rv != 0) := by
    rw [HRB0.out]
    by_cases h0 : rv = 0
    ·simp [h0]
    ·simp [h0]
   subst hrbz
   have HMc : True := trivial
   have HMd : True := trivial
   go_wp2_with (first
    | (clear HMc; refine wpList_load_is rfl 46 _ rfl (.pointer (some ⟨s10, 0, none⟩)) rfl (.agg #[.int .i64 l1, .int .i64 l2, .int .i64 l3]) (HL10.out _ (Below.refl _ _)) ?_)
    | (clear HMd; refine wpList_load_is rfl 46 _ rfl (.pointer (some ⟨s12, 0, none⟩)) rfl (.agg #[.int .i64 l1, .int .i64 l2, .int .i64 l3]) (HL12.out _ (Below.refl _ _)) ?_)
    | (go_at_call 25; refine (HRR.out _ (Below.refl _ _)).mono ?_; rintro e w15 ⟨rfl, hW⟩; subst hW)
    | (go_at_call 14; refine (HLE.out _ (Below.refl _ _)).mono ?_; rintro e w16 ⟨rfl, hW⟩; subst hW)
    | (go_at_call 10; refine (HEN.out _ (Below.refl _ _)).mono ?_; rintro e w17 ⟨⟨v6, Zs0, rfl, hc6, he6⟩, hb⟩; obtain ⟨A5, c5, n5, Zs, rfl, z1, z2, z3, z4⟩ := enP.mk hc6 he6; have HZ1 := Lib.hid z1; have HZ2 := Lib.hid z2; have HZ3 := Lib.hid z3; have HZ4 := Lib.hid z4; have HB17 := Lib.hid hb; clear hc6 he6 z1 z2 z3 z4 hb)
    | (go_at_call 26; refine (HSM.out A5 c5 n5 Zs _ HB17.out HZ1.out HZ2.out HZ3.out HZ4.out).mono ?_; rintro e w18 ⟨rfl, hb⟩; have HB18 := Lib.hid (HB13.out.trans ((HB17.out.trans (hb.mono HB17.out.size)).mono HB13.out.size)); clear hb))
   go_ret
   exact ⟨by first | rfl | simp, by have h9 := HB2.out.trans (HB18.out.mono HB2.out.size); first | exact h9 | (rw [← HS0.out]; exact h9)⟩
 ·have hdf : decide (idxP (Os.map pe) a < n) = false := decide_eq_false hf
  rw [hdf] at HGT
  rw [if_neg hf] at HRG
  rw [hno hdf] at HPE
  obtain ⟨ZV, hZV⟩ : ∃ ZV, ZV = etyV ety0 := ⟨_, rfl⟩
  have HZV := Lib.hid hZV
  have HBZ : Hid (∀ W, (Instr.build 42 #[]).run Tryz.prog W = .ok ZV W) := Lib.hid (fun W => by rw [hZV]; exact run_build W 42 _ _ (by kernel_rfl))
  clear hyes hno hdf hf hZV
  go_enter Tryz.func8, Tryz.ntmps8
  go_upto_region 3 with (first
   | (go_at_call 19; refine (HGT.out _ (Below.refl _ _)).mono ?_; rintro e w3 ⟨⟨A1, c1, rfl, hk1⟩, hb⟩; have HK1 := Lib.hid hk1; have HB3 := Lib.hid hb; clear hk1 hb; obtain ⟨s3, hs3⟩ : ∃ s3, w3.heap.size = s3 := ⟨_, rfl⟩; have HS3 := Lib.hid hs3)
   | (clear HM1; refine wpList_store_wh rfl 42 _ _ rfl s3 rfl 42 [.int .i64 0, .int .i64 0, .int .i64 0, .int .i64 0, .int .i64 0, .string ⟨#[]⟩, .slice none 0 0] (etyC (y0.at A1 c1)) rfl (by rw [← HS3.out]; exact Wh.new w3 42 [.int .i64 0, .int .i64 0, .int .i64 0, .int .i64 0, .int .i64 0, .string ⟨#[]⟩, .slice none 0 0]) rfl (by kernel_rfl) (by kernel_rfl) ?_; intro w5 hr5 ho5 hz5; have hb5 : Below w3.heap.size w3 w5 := only_new (by rw [HS3.out]; exact ho5.out); have HR5 := Lib.hid hr5.out; have HB5 := Lib.hid (HB3.out.trans (hb5.mono HB3.out.size)); have HK5 := Lib.hid (HK1.out.up hb5); have q5 := (HAB.out.up HB5.out).at 0 _ rfl; clear hr5 ho5 hz5 hb5)
   | (go_at_call 20; refine (HRG.out _ HB5.out).mono ?_; rintro e w6 ⟨rfl, hW⟩; subst hW))
  obtain ⟨YV, hYV⟩ : ∃ YV, YV = etyV (y0.at A1 c1) := ⟨_, rfl⟩
  have HYV := Lib.hid hYV
  have HLY : Hid (∀ W, Below w5.heap.size w5 W → (Instr.loadAt 42 (.pointer (some ⟨s3, 0, none⟩))).run Tryz.prog W = .ok YV W) := Lib.hid (fun W h => by rw [hYV, etyV_is]; exact (HR5.out.up h).rg.load 0 42 (etyC (y0.at A1 c1)) rfl _ Tryz.underlying42 rfl (by kernel_rfl))
  clear hYV
  have HEQ : Hid (∀ W, Below w5.heap.size w5 W → Calls Tryz.prog 21 #[YV, ZV] W fun e w' => e = .returned (.bool true) ∧ Below W.heap.size W w') := Lib.hid (fun W hW => by
   have h9 := r11eq_any (y0.at A1 c1) ety0 Y [] W (HK5.out.up hW) (ety0_k W) HYN.out.1 (Nat.zero_le _)
   rw [show eqB (pe (y0.at A1 c1, Y)) (pe (ety0, [])) = true from eqB_iff.2 HPE.out, ← HYV.out, ← HZV.out] at h9
   exact h9)
  refine AK.region_facts (Rp := Below0) (Kp := Below0) (smFb n c s3 A YV ZV) (fun _ _ W => Below w5.heap.size w5 W) [[], [], [28], [27, 29], [30], [31], [32, 31], [33], [33], [33], [33], [33], [33], [33], [33, 40, 31], [31, 41], [42], [43], [44, 43], [45, 43], [46], [46], [47, 48, 46], [49, 46], [46, 50, 43], [43, 51]] [] [[]] [0, 0, 0, 0, 0, 0, 0, 0, 0, 0, 0, 0, 0, 0, 0, 0, 0, 0, 0, 0, 0, 0, 0, 0, 0, 0] [0, 0, 0, 0, 0, 0, 0, 0, 0, 0, 0, 0, 0, 0, 0, 0, 0, 0, 0, 0, 0, 0, 0, 0, 0, 0] [] (fun u => by simp only [smFb, AK.temps, List.map_cons, List.map_nil, fillL, List.setIfInBounds_toArray, List.set_cons_zero, List.set_cons_succ]; rfl) (by kernel_rfl) (by kernel_rfl) (fun _ _ h => h.size) (fun _ _ h => h) (fun _ _ _ _ hb h => h.trans (hb.mono h.size)) (dc_drew (Below.refl _ _)) ?_ ?_
  ·refine AK.sc (lim := 0) (lo := 0) rfl rfl rfl rfl ?_ ?_
   ·intro k_ u w_ hk_ hl_ hJ hF K hK
    clear hF
    go_simp
    exact hK.out _ _ bR (rfl) trivial
   refine AK.sc (lim := 0) (lo := 0) rfl rfl rfl rfl ?_ ?_
   ·intro k_ u w_ hk_ hl_ hJ hF K hK
    clear hF
    go_simp
    exact hK.out _ _ bR (rfl) trivial
   refine AK.sc (lim := 0) (lo := 0) rfl rfl rfl rfl ?_ ?_
   ·intro k_ u w_ hk_ hl_ hJ hF K hK
    have h28 : u 28 = .int .i64 (-1) := AK.facts_get hF 28 (by simp)
    clear hF
    simp only [h28] at hK ⊢
    clear h28
    go_simp
    exact hK.out _ _ bR (rfl) trivial
   refine AK.sc (lim := 0) (lo := 0) rfl rfl rfl rfl ?_ ?_
   ·intro k_ u w_ hk_ hl_ hJ hF K hK
    have h27 : u 27 = .bool false := AK.facts_get hF 27 (by simp)
    have h29 : u 29 = .bool false := AK.facts_get hF 29 (by simp)
    clear hF
    simp only [h27, h29] at hK ⊢
    clear h27 h29
    go_simp
    exact hK.out _ _ bR (rfl) trivial
   refine AK.sc (lim := 0) (lo := 0) rfl rfl rfl rfl ?_ ?_
   ·intro k_ u w_ hk_ hl_ hJ hF K hK
    have h30 : u 30 = .bool false := AK.facts_get hF 30 (by simp)
    clear hF
    simp only [h30] at hK ⊢
    clear h30
    go_simp
    exact hK.out _ _ bR (rfl) trivial
   refine AK.sc (lim := 0) (lo := 0) rfl rfl rfl rfl ?_ ?_
   ·intro k_ u w_ hk_ hl_ hJ hF K hK
    have h31 : u 31 = .bool false := AK.facts_get hF 31 (by simp)
    clear hF
    simp only [h31] at hK ⊢
    clear h31
    go_simp
    exact hK.out _ _ bR (rfl) trivial
   refine AK.sc (lim := 0) (lo := 0) rfl rfl rfl rfl ?_ ?_
   ·intro k_ u w_ hk_ hl_ hJ hF K hK
    have h32 : u 32 = .bool false := AK.facts_get hF 32 (by simp)
    have h31 : u 31 = .bool false := AK.facts_get hF 31 (by simp)
    clear hF
    simp only [h32, h31] at hK ⊢
    clear h32 h31
    go_simp
    exact hK.out _ _ bR (rfl) trivial
   refine AK.sc (lim := 0) (lo := 0) rfl rfl rfl rfl ?_ ?_
   ·intro k_ u w_ hk_ hl_ hJ hF K hK
    have h33 : u 33 = .bool false := AK.facts_get hF 33 (by simp)
    clear hF
    simp only [h33] at hK ⊢
    clear h33
    go_simp
    exact hK.out _ _ bR (rfl) trivial
   refine AK.sc (lim := 0) (lo := 0) rfl rfl rfl rfl ?_ ?_
   ·intro k_ u w_ hk_ hl_ hJ hF K hK
    have h33 : u 33 = .bool false := AK.facts_get hF 33 (by simp)
    clear hF
    simp only [h33] at hK ⊢
    clear h33
    go_simp
    exact hK.out _ _ bR (rfl) trivial
   refine AK.sc (lim := 0) (lo := 0) rfl rfl rfl rfl ?_ ?_
   ·intro k_ u w_ hk_ hl_ hJ hF K hK
    have h33 : u 33 = .bool false := AK.facts_get hF 33 (by simp)
    clear hF
    simp only [h33] at hK ⊢
    clear h33
    go_simp
    exact hK.out _ _ bR (rfl) trivial
   refine AK.sc (lim := 0) (lo := 0) rfl rfl rfl rfl ?_ ?_
   ·intro k_ u w_ hk_ hl_ hJ hF K hK
    have h33 : u 33 = .bool false := AK.facts_get hF 33 (by simp)
    clear hF
    simp only [h33] at hK ⊢
    clear h33
    go_simp
    exact hK.out _ _ bR (rfl) trivial
   refine AK.sc (lim := 0) (lo := 0) rfl rfl rfl rfl ?_ ?_
   ·intro k_ u w_ hk_ hl_ hJ hF K hK
    have h33 : u 33 = .bool false := AK.facts_get hF 33 (by simp)
    clear hF
    simp only [h33] at hK ⊢
    clear h33
    go_simp
    exact hK.out _ _ bR (rfl) trivial
   refine AK.sc (lim := 0) (lo := 0) rfl rfl rfl rfl ?_ ?_
   ·intro k_ u w_ hk_ hl_ hJ hF K hK
    have h33 : u 33 = .bool false := AK.facts_get hF 33 (by simp)
    clear hF
    simp only [h33] at hK ⊢
    clear h33
    go_simp
    exact hK.out _ _ bR (rfl) trivial
   refine AK.sc (lim := 0) (lo := 0) rfl rfl rfl rfl ?_ ?_
   ·intro k_ u w_ hk_ hl_ hJ hF K hK
    have h33 : u 33 = .bool false := AK.facts_get hF 33 (by simp)
    clear hF
    simp only [h33] at hK ⊢
    clear h33
    go_simp
    exact hK.out _ _ bR (rfl) trivial
   refine AK.sc (lim := 0) (lo := 0) rfl rfl rfl rfl ?_ ?_
   ·intro k_ u w_ hk_ hl_ hJ hF K hK
    have h33 : u 33 = .bool false := AK.facts_get hF 33 (by simp)
    have h40 : u 40 = undef := AK.facts_get hF 40 (by simp)
    have h31 : u 31 = .bool false := AK.facts_get hF 31 (by simp)
    clear hF
    simp only [h33, h40, h31] at hK ⊢
    clear h33 h40 h31
    go_simp
    exact hK.out _ _ bR (rfl) trivial
   refine AK.sc (lim := 0) (lo := 0) rfl rfl rfl rfl ?_ ?_
   ·intro k_ u w_ hk_ hl_ hJ hF K hK
    have h31 : u 31 = .bool false := AK.facts_get hF 31 (by simp)
    have h41 : u 41 = .bool false := AK.facts_get hF 41 (by simp)
    clear hF
    simp only [h31, h41] at hK ⊢
    clear h31 h41
    go_simp
    exact hK.out _ _ bR (rfl) trivial
   refine AK.sc (lim := 0) (lo := 0) rfl rfl rfl rfl ?_ ?_
   ·intro k_ u w_ hk_ hl_ hJ hF K hK
    have h42 : u 42 = .bool false := AK.facts_get hF 42 (by simp)
    clear hF
    simp only [h42] at hK ⊢
    clear h42
    go_simp
    exact hK.out _ _ bR (rfl) trivial
   refine AK.sc (lim := 0) (lo := 0) rfl rfl rfl rfl ?_ ?_
   ·intro k_ u w_ hk_ hl_ hJ hF K hK
    have h43 : u 43 = .bool false := AK.facts_get hF 43 (by simp)
    clear hF
    simp only [h43] at hK ⊢
    clear h43
    go_simp
    exact hK.out _ _ bR (rfl) trivial
   refine AK.sc (lim := 0) (lo := 0) rfl rfl rfl rfl ?_ ?_
   ·intro k_ u w_ hk_ hl_ hJ hF K hK
    have h44 : u 44 = .bool false := AK.facts_get hF 44 (by simp)
    have h43 : u 43 = .bool false := AK.facts_get hF 43 (by simp)
    clear hF
    simp only [h44, h43] at hK ⊢
    clear h44 h43
    go_simp
    exact hK.out _ _ bR (rfl) trivial
   refine AK.sc (lim := 0) (lo := 0) rfl rfl rfl rfl ?_ ?_
   ·intro k_ u w_ hk_ hl_ hJ hF K hK
    have h45 : u 45 = .bool true := AK.facts_get hF 45 (by simp)
    have h43 : u 43 = .bool false := AK.facts_get hF 43 (by simp)
    clear hF
    simp only [h45, h43] at hK ⊢
    clear h45 h43
    go_simp
    exact hK.out _ _ bR (rfl) trivial
   refine AK.sc (lim := 0) (lo := 0) rfl rfl rfl rfl ?_ ?_
   ·intro k_ u w_ hk_ hl_ hJ hF K hK
    have h46 : u 46 = .bool true := AK.facts_get hF 46 (by simp)
    clear hF
    simp only [h46] at hK ⊢
    clear h46
    refine wp_load_is 42 _ rfl (.pointer (some ⟨s3, 0, none⟩)) rfl YV (HLY.out _ hJ) ?_
    exact hK.out _ _ bR rfl trivial
   refine AK.sc (lim := 0) (lo := 0) rfl rfl rfl rfl ?_ ?_
   ·intro k_ u w_ hk_ hl_ hJ hF K hK
    have h46 : u 46 = .bool true := AK.facts_get hF 46 (by simp)
    clear hF
    simp only [h46] at hK ⊢
    clear h46
    refine wp_build_is 42 _ rfl [] rfl ZV (HBZ.out _) ?_
    exact hK.out _ _ bR rfl trivial
   refine AK.sc (lim := 0) (lo := 0) rfl rfl rfl rfl ?_ ?_
   ·intro k_ u w_ hk_ hl_ hJ hF K hK
    have h47 : u 47 = YV := AK.facts_get hF 47 (by simp)
    have h48 : u 48 = ZV := AK.facts_get hF 48 (by simp)
    have h46 : u 46 = .bool true := AK.facts_get hF 46 (by simp)
    clear hF
    simp only [h47, h48, h46] at hK ⊢
    clear h47 h48 h46
    go_simp
    refine (HEQ.out _ hJ).mono ?_
    rintro r w6 ⟨rfl, hb6⟩
    exact hK.out _ _ hb6 rfl trivial
   refine AK.sc (lim := 0) (lo := 0) rfl rfl rfl rfl ?_ ?_
   ·intro k_ u w_ hk_ hl_ hJ hF K hK
    have h49 : u 49 = .bool true := AK.facts_get hF 49 (by simp)
    have h46 : u 46 = .bool true := AK.facts_get hF 46 (by simp)
    clear hF
    simp only [h49, h46] at hK ⊢
    clear h49 h46
    go_simp
    exact hK.out _ _ bR (rfl) trivial
   refine AK.sc (lim := 0) (lo := 0) rfl rfl rfl rfl ?_ ?_
   ·intro k_ u w_ hk_ hl_ hJ hF K hK
    have h46 : u 46 = .bool true := AK.facts_get hF 46 (by simp)
    have h50 : u 50 = .bool false := AK.facts_get hF 50 (by simp)
    have h43 : u 43 = .bool false := AK.facts_get hF 43 (by simp)
    clear hF
    simp only [h46, h50, h43] at hK ⊢
    clear h46 h50 h43
    go_simp
    exact hK.out _ _ bR (rfl) trivial
   refine AK.sc (lim := 0) (lo := 0) rfl rfl rfl rfl ?_ ?_
   ·intro k_ u w_ hk_ hl_ hJ hF K hK
    have h43 : u 43 = .bool false := AK.facts_get hF 43 (by simp)
    have h51 : u 51 = .bool false := AK.facts_get hF 51 (by simp)
    clear hF
    simp only [h43, h51] at hK ⊢
    clear h43 h51
    go_simp
    exact hK.out _ _ bR (rfl) trivial
   exact AK.StepsOk.nil
  ·intro u W9 hJ9 hF
   have h52 : u 52 = .bool false := AK.facts_get hF 52 (by simp [smFb, AK.temps])
   clear hF
   have HB9 := Lib.hid (HB5.out.trans (hJ9.mono HB5.out.size))
   simp only [h52]
   clear hJ9 h52
   have q6 := (HAB.out.up HB9.out).at 0 _ rfl
   have q7 := (HAB.out.up HB9.out).at 1 _ rfl
   have HMa : True := trivial
   have HMb : True := trivial
   go_upto_region 8 with (first
    | (go_at_call 22; refine (HLN.out _ HB9.out).mono ?_; rintro e w10 ⟨rfl, hb⟩; have HB10 := Lib.hid (HB9.out.trans (hb.mono HB9.out.size)); clear hb; obtain ⟨s10, hs10⟩ : ∃ s10, w10.heap.size = s10 := ⟨_, rfl⟩; have HS10 := Lib.hid hs10)
    | (clear HMa; refine wpList_store_wh rfl 46 _ _ rfl s10 rfl 46 [.int .i64 0, .int .i64 0, .int .i64 0] [.int .i64 l1, .int .i64 l2, .int .i64 l3] rfl (by rw [← HS10.out]; exact Wh.new w10 46 [.int .i64 0, .int .i64 0, .int .i64 0]) rfl (by kernel_rfl) (by kernel_rfl) ?_; intro w11 hr11 ho11 hz11; have hb11 : Below w10.heap.size w10 w11 := only_new (by rw [HS10.out]; exact ho11.out); have HR11 := Lib.hid hr11.out; have HB11 := Lib.hid (HB10.out.trans (hb11.mono HB10.out.size)); have q8 := (HAB.out.up HB11.out).at 0 _ rfl; have q9 := (HAB.out.up HB11.out).at 1 _ rfl; clear hr11 ho11 hz11 hb11)
    | (go_at_call 23; refine (HRL.out _ HB11.out).mono ?_; rintro e w12 ⟨rfl, hb⟩; have HB12 := Lib.hid (HB11.out.trans (hb.mono HB11.out.size)); have HR12 := Lib.hid (HR11.out.up hb); clear hb; obtain ⟨s12, hs12⟩ : ∃ s12, w12.heap.size = s12 := ⟨_, rfl⟩; have HS12 := Lib.hid hs12)
    | (clear HMb; refine wpList_store_wh rfl 46 _ _ rfl s12 rfl 46 [.int .i64 0, .int .i64 0, .int .i64 0] [.int .i64 l1, .int .i64 l2, .int .i64 l3] rfl (by rw [← HS12.out]; exact Wh.new w12 46 [.int .i64 0, .int .i64 0, .int .i64 0]) rfl (by kernel_rfl) (by kernel_rfl) ?_; intro w13 hr13 ho13 hz13; have hb13 : Below w12.heap.size w12 w13 := only_new (by rw [HS12.out]; exact ho13.out); have HR13 := Lib.hid hr13.out; have HR14 := Lib.hid (HR12.out.up hb13); have HB13 := Lib.hid (HB12.out.trans (hb13.mono HB12.out.size)); have qa := (HAB.out.up HB13.out).at 0 _ rfl; clear hr13 ho13 hz13 hb13)
    | (go_at_call 24; refine (HRV.out _ HB13.out).mono ?_; rintro e w14 ⟨rfl, hW⟩; subst hW))
   have HUP : Hid (∀ W, Below w13.heap.size w13 W → Below w2.heap.size w2 W) := Lib.hid (fun W h => HB13.out.trans (h.mono HB13.out.size))
   have HL10 : Hid (∀ W, Below w13.heap.size w13 W → (Instr.loadAt 46 (.pointer (some ⟨s10, 0, none⟩))).run Tryz.prog W = .ok (.agg #[.int .i64 l1, .int .i64 l2, .int .i64 l3]) W) := Lib.hid (fun W h => (HR14.out.up h).rg.load 0 46 [.int .i64 l1, .int .i64 l2, .int .i64 l3] rfl _ Tryz.underlying46 rfl (by kernel_rfl))
   have HL12 : Hid (∀ W, Below w13.heap.size w13 W → (Instr.loadAt 46 (.pointer (some ⟨s12, 0, none⟩))).run Tryz.prog W = .ok (.agg #[.int .i64 l1, .int .i64 l2, .int .i64 l3]) W) := Lib.hid (fun W h => (HR13.out.up h).rg.load 0 46 [.int .i64 l1, .int .i64 l2, .int .i64 l3] rfl _ Tryz.underlying46 rfl (by kernel_rfl))
   have HCA : Hid (∀ W, Below w13.heap.size w13 W → W.cell? ⟨s0, 0, none⟩ = some (.int .i64 a)) := Lib.hid (fun W h => (HAB.out.up (HUP.out W h)).at 0 _ rfl)
   have HRR := Lib.hid (fun W (h : Below w13.heap.size w13 W) => HRR0.out W (HUP.out W h))
   have HLE := Lib.hid (fun W (h : Below w13.heap.size w13 W) => HLE0.out W (HUP.out W h))
   have HEN := Lib.hid (fun W (h : Below w13.heap.size w13 W) => HEN0.out W (HUP.out W h))
   have HSM : Hid (∀ A5 c5 n5 (Zs : List Etl) W, Below w13.heap.size w13 W → Zs.length = n5 → Zs.map pe = Os.map pe → RowAt lyX W A5 (Zs.map (·.1)) → EtysK W Zs → Calls Tryz.prog 26 #[.slice A5 n5 c5, .slice A n c] W fun e w' => e = .returned (.bool true) ∧ Below W.heap.size W w') := Lib.hid (fun A5 c5 n5 Zs W h => HSM0.out A5 c5 n5 Zs W (HUP.out W h))
   have HRB : Hid (Value.bool (decide (rv ≠ 0)) = Value.bool rb) := Lib.hid (by rw [HRB0.out])
   have hrbz : rb = (rv != 0) := by
    rw [HRB0.out]
    by_cases h0 : rv = 0
    ·simp [h0]
    ·simp [h0]
   subst hrbz
   have HMc : True := trivial
   have HMd : True := trivial
   go_wp2_with (first
    | (clear HMc; refine wpList_load_is rfl 46 _ rfl (.pointer (some ⟨s10, 0, none⟩)) rfl (.agg #[.int .i64 l1, .int .i64 l2, .int .i64 l3]) (HL10.out _ (Below.refl _ _)) ?_)
    | (clear HMd; refine wpList_load_is rfl 46 _ rfl (.pointer (some ⟨s12, 0, none⟩)) rfl (.agg #[.int .i64 l1, .int .i64 l2, .int .i64 l3]) (HL12.out _ (Below.refl _ _)) ?_)
    | (go_at_call 25; refine (HRR.out _ (Below.refl _ _)).mono ?_; rintro e w15 ⟨rfl, hW⟩; subst hW)
    | (go_at_call 14; refine (HLE.out _ (Below.refl _ _)).mono ?_; rintro e w16 ⟨rfl, hW⟩; subst hW)
    | (go_at_call 10; refine (HEN.out _ (Below.refl _ _)).mono ?_; rintro e w17 ⟨⟨v6, Zs0, rfl, hc6, he6⟩, hb⟩; obtain ⟨A5, c5, n5, Zs, rfl, z1, z2, z3, z4⟩ := enP.mk hc6 he6; have HZ1 := Lib.hid z1; have HZ2 := Lib.hid z2; have HZ3 := Lib.hid z3; have HZ4 := Lib.hid z4; have HB17 := Lib.hid hb; clear hc6 he6 z1 z2 z3 z4 hb)
    | (go_at_call 26; refine (HSM.out A5 c5 n5 Zs _ HB17.out HZ1.out HZ2.out HZ3.out HZ4.out).mono ?_; rintro e w18 ⟨rfl, hb⟩; have HB18 := Lib.hid (HB13.out.trans ((HB17.out.trans (hb.mono HB17.out.size)).mono HB13.out.size)); clear hb))
   go_ret
   exact ⟨by first | rfl | simp, by have h9 := HB2.out.trans (HB18.out.mono HB2.out.size); first | exact h9 | (rw [← HS0.out]; exact h9)⟩
theorem line_set (L : List Lnk) (pos : Nat) (z : Int) : ∃ L' : List Lnk, L'.length = L.length ∧ (lyL.all L).set pos (.int .i64 z) = lyL.all L' := by
 by_cases h : pos < L.length * 3
 ·obtain ⟨i, j, rfl, hj⟩ : ∃ i j, pos = i * 3 + j ∧ j < 3 := ⟨pos / 3, pos % 3, by omega, by omega⟩
  have hi : i < L.length := by omega
  obtain ⟨a, ha⟩ : ∃ a, L[i]? = some a := ⟨_, List.getElem?_eq_getElem hi⟩
  have key : ∃ a' : Lnk, (lyL.cel a).set j (.int .i64 z) = lyL.cel a' := by
   match j, hj with
   | 0, _ => exact ⟨⟨z, a.tgt, a.since⟩, rfl⟩
   | 1, _ => exact ⟨⟨a.frm, z, a.since⟩, rfl⟩
   | 2, _ => exact ⟨⟨a.frm, a.tgt, z⟩, rfl⟩
  obtain ⟨a', ha'⟩ := key
  exact ⟨L.set i a', by simp, lyL.set L i j a a' _ ha ha' hj⟩
 ·refine ⟨L, rfl, List.set_eq_of_length_le ?_⟩
  have h1 := lyL.all_len L
  rw [show lyL.s = 3 from rfl] at h1
  omega
theorem own_seti {e : TypeId} {w : World} {B : Nat} {v : Value} {L : List Lnk} (h : OwnR lyL e w B v L) (g pos : Nat) (z : Int) : ∃ L' : List Lnk, L'.length = L.length ∧ OwnR lyL e (w.setCell ⟨g, pos, none⟩ (.int .i64 z)) B v L' := by
 by_cases hg : v.ownBlock = some g
 ·obtain ⟨h1, h2⟩ := h
  obtain ⟨L', hl, hs⟩ := line_set L pos z
  rcases h2 with ⟨rfl, h0⟩ | ⟨g', cap, cur, rfl, hbg, hgc, hn, hcap, hsz, hcur⟩
  ·cases hg
  ·obtain rfl : g' = g := by injection hg
   refine ⟨L', hl, lyL.all_len _, .inr ⟨g', cap, cur.set! pos (.int .i64 z), by rw [hl], hbg, ?_, by rw [hl]; exact hn, hcap, by simpa using hsz, ?_⟩⟩
   ·simp [World.setCell, Array.getElem?_modify, hgc]
   ·rw [hl, ← hs, ← hcur]
    simp [List.take_set]
 ·exact ⟨L, rfl, h.blk fun g' hg' => Below.heap_setCell w ⟨g, pos, none⟩ _ g' (fun e => hg (by rw [hg', e]))⟩
theorem own_cell {e : TypeId} {w : World} {B n c : Nat} {A : Option Addr} {L : List Lnk} (h : OwnR lyL e w B (.slice A n c) L) {k : Nat} (hk : k < n) (hl : L.length = n) : ∃ g, A = some ⟨g, 0, none⟩ ∧ B ≤ g ∧ g < w.heap.size ∧ (∃ z : Int, w.cell? ⟨g, k * 3 + 1, none⟩ = some (.int .i64 z)) ∧ w.frozen? ⟨g, k * 3 + 1, none⟩ = false := by
 obtain ⟨A', c', e1, hr, -⟩ := h.reads
 have hz := lnk_row.1 hr
 have h2 := h.2
 rcases h2 with ⟨e2, h0⟩ | ⟨g, cap, cur, e2, hbg, hgc, hn, hcap, hsz, hcur⟩
 ·omega
 ·injection e1 with e1 _ _
  injection e2 with e2 _ _
  rw [← e1, e2] at hz
  obtain ⟨b, off, e3, hlt, hc⟩ := hz (by omega)
  injection e3 with e3
  injection e3 with e3 e4 _
  subst e3 e4
  obtain ⟨c0, c1, c2⟩ := hc k (by omega)
  rw [Nat.zero_add] at c1
  exact ⟨_, e2, hbg, hlt, ⟨_, c1⟩, by simp [World.frozen?, hgc]⟩
structure CpW (B : Nat) (v : Value) (Es : List Ety) (W : World) : Prop where
 row : OwnR lyX 42 W B v Es
 lns : ∀ e ∈ Es, ∃ Y : List Lnk, Y.length = e.n ∧ OwnR lyL 46 W B (.slice e.A e.n e.c) Y
theorem CpW.of {w : World} {B : Nat} {v : Value} {Zs : List Etl} (h : CopP w B v Zs) : CpW B v (Zs.map (·.1)) w :=
 ⟨h.row, fun e he => by obtain ⟨p, hp, rfl⟩ := List.mem_map.1 he; exact ⟨p.2, (h.lns p hp).1, (h.lns p hp).2.2⟩⟩
theorem CpW.seti {B : Nat} {v : Value} {Es : List Ety} {W : World} (h : CpW B v Es W) {e : Ety} (he : e ∈ Es) {g : Nat} (hA : e.A = some ⟨g, 0, none⟩) (pos : Nat) (z : Int) : CpW B v Es (W.setCell ⟨g, pos, none⟩ (.int .i64 z)) := by
 obtain ⟨Y, hY, hO⟩ := h.lns e he
 rw [hA] at hO
 refine ⟨h.row.blk fun g' hg' => Below.heap_setCell W ⟨g, pos, none⟩ _ g' (fun e1 => own_apart hO h.row (by decide) (g := g) rfl (by rw [hg', e1])), fun e2 he2 => ?_⟩
 obtain ⟨Y2, hY2, hO2⟩ := h.lns e2 he2
 obtain ⟨L', hl, ho⟩ := own_seti hO2 g pos z
 exact ⟨L', by rw [hl, hY2], ho⟩
theorem set_only {W0 W : World} {S : Nat → Prop} {g pos : Nat} {z : Int} (h : Only S W0 W) (hg : S g) : Only S W0 (W.setCell ⟨g, pos, none⟩ (.int .i64 z)) := h.trans (Only.setCell W (a := ⟨g, pos, none⟩) hg _)
def JD.clo (j : JD) (p : Nat) (A : Option Addr) (c b1 b2 : Nat) : JD := { j with b := p, A := A, c := c, bi := b1, br := b2 }
def ClM (p : Nat) (A : Option Addr) (n c b1 b2 : Nat) (k : Nat) : Prop := k = p ∨ k = b1 ∨ k = b2 ∨ (Value.slice A n c).ownBlock = some k
theorem clo_jk {M S : Nat → Prop} {B s : Nat} {w w' : World} {j : JD} {p c b1 b2 : Nat} {A : Option Addr} (hj : JK M B w j) (hIM : Im S (fun W => GrK W j.g j.L j.G ∧ EtysK W j.Xs) w') (hS : ∀ k, ClM p A j.n c b1 b2 k → S k)
  (hb : Wh 57 w' p (jnC j.g (.slice A j.n c) b1 b2)) (hm : jcM j s A c b1 b2 w') : JK (ClM p A j.n c b1 b2) s w' (j.clo p A c b1 b2) :=
 ⟨hb, hm.2.2.2.2.2, hj.ln, hm.2.2.2.1, hm.2.2.2.2.1, fun W h => (hIM W (h.wide fun k _ hk => hS k hk)).1, fun W h => (hIM W (h.wide fun k _ hk => hS k hk)).2, .inl rfl, .inr (.inl rfl), .inr (.inr (.inl rfl)), fun _ hk => .inr (.inr (.inr hk)), hm.2.2.1, hj.hs, hj.hw, hj.good⟩
section
variable {g : Grp} {L : List Acc} {G : List Ent} {Ps Os : List Etl} {w3 W9 w10 W12 W13 : World} {i jb p c5 c6 b1 b2 : Nat} {j : JD} {M : Nat → Prop} {A5 A6 : Option Addr}
def SgS (M : Nat → Prop) (s : Nat) (k : Nat) : Prop := M k ∨ s ≤ k
theorem ps_im (hps : PS g L G Ps w3 i Os jb j M (.slice A5 Os.length c5) W9) : Im (SgS M W9.heap.size) (fun W => GrK W j.g j.L j.G ∧ EtysK W j.Xs) W9 := fun W h => hps.im W (h.wide fun k hk hs => by
 rcases hs with hs | hs
 ·exact .inl hs
 ·omega)
theorem clm_lt (hp1 : W9.heap.size ≤ p) (hp2 : Wh 57 w10 p (jnC j.g (.slice A6 j.n c6) b1 b2)) (hp3 : jcM j W9.heap.size A6 c6 b1 b2 w10) : ∀ k, ClM p A6 j.n c6 b1 b2 k → W9.heap.size ≤ k ∧ k < w10.heap.size := fun k hk => by
 rcases hk with rfl | rfl | rfl | hk
 ·exact ⟨hp1, hp2.lt⟩
 ·exact ⟨hp3.1, hp3.2.2.2.1.lt⟩
 ·exact ⟨hp3.2.1, hp3.2.2.2.2.1.lt⟩
 ·exact hp3.2.2.2.2.2.lt hk
theorem clo_sg (hps : PS g L G Ps w3 i Os jb j M (.slice A5 Os.length c5) W9) (hp1 : W9.heap.size ≤ p) (hp2 : Wh 57 w10 p (jnC j.g (.slice A6 j.n c6) b1 b2)) (hp3 : jcM j W9.heap.size A6 c6 b1 b2 w10)
  (W : World) (hO : Only (SgS M W9.heap.size) W9 W) (hk : ∀ k, ClM p A6 j.n c6 b1 b2 k → W.heap[k]? = w10.heap[k]?) : SG (ClM p A6 j.n c6 b1 b2) W9.heap.size (j.clo p A6 c6 b1 b2) Os p A5 i W := by
 have hlt := clm_lt hp1 hp2 hp3
 have hIM : Im (SgS M W9.heap.size) (fun W => GrK W j.g j.L j.G ∧ EtysK W j.Xs) W := fun W' h => ps_im hps W' (hO.trans h)
 obtain ⟨q1, q2, q3, q4, q5, q6⟩ := hp3
 refine ⟨clo_jk hps.jk hIM (fun k h => .inr (hlt k h).1) (hp2.same (hk p (.inl rfl))) ⟨q1, q2, q3, q4.blk (hk b1 (.inr (.inl rfl))), q5.blk (hk b2 (.inr (.inr (.inl rfl)))), q6.blk fun g hg => hk g (.inr (.inr (.inr hg)))⟩, rfl, hps.es, ?_, hps.ln⟩
 obtain ⟨A8, c8, e8, hr8, hown⟩ := hps.ow.reads
 injection e8 with e8 _ _
 rw [e8]
 refine hr8.same fun g o hg => ?_
 have h1 := (hown g o hg).1
 have h2 := hps.ow.lt h1
 exact hO.blk g h2.2 (fun h3 => by
  rcases h3 with h3 | h3
  ·exact hps.dj g h1 h3
  ·omega)
theorem post_jk {y : Ety} {Y : List Lnk} {A8 : Option Addr} {c8 : Nat} {E : Int} (hps : PS g L G Ps w3 i Os jb j M (.slice A5 Os.length c5) W9) (hb : Below W9.heap.size W9 W12) (hN : ∀ k, (Value.slice A8 y.n c8).ownBlock = some k → W9.heap.size ≤ k ∧ k < W12.heap.size)
  (_hE : postE (chkN j.g (y.at A8 c8) Y j.L j.G) j.Es (pe (y.at A8 c8, Y)) = E) (hQ : PostQ E M w3.heap.size j (y.at A8 c8) Y W12 W13) :
  Only M W12 W13 ∧ ∃ M3 j3, j3.b = jb ∧ j3.Es = (if E = 0 then Os ++ [(y, Y)] else Os).map pe ∧ (∀ k, M3 k → (M k ∨ W12.heap.size ≤ k) ∧ k < W13.heap.size) ∧ ∀ W, Only (fun k => (Value.slice A8 y.n c8).ownBlock = some k ∨ W13.heap.size ≤ k) W13 W → JK M3 w3.heap.size W j3 := by
 have hj12 : JK M w3.heap.size W12 j := hps.jk.up hb
 by_cases h0 : E = 0
 ·obtain ⟨A', c', A2, c2, hjk, hO, hM, hNN⟩ := hQ.yes h0
  refine ⟨hO, MA M j A2 c2, j.add ((y.at A8 c8).at A' c') Y A2 c2, hps.jb, ?_, hM, fun W hW => ?_⟩
  ·rw [if_pos h0, JD.add_es, hps.es, List.map_append]
   rfl
  ·have hne : ∀ k, MA M j A2 c2 k → ¬ ((Value.slice A8 y.n c8).ownBlock = some k ∨ W13.heap.size ≤ k) := fun k hk h9 => by
    have h1 := hM k hk
    rcases h9 with h9 | h9
    ·have h2 := hN k h9
     rcases h1.1 with h3 | h3
     ·have := (hps.mw k h3).2; omega
     ·omega
    ·omega
   have hbl : ∀ k, MA M j A2 c2 k → W.heap[k]? = W13.heap[k]? := fun k hk => hW.blk k (hM k hk).2 (hne k hk)
   have hS : ∀ W', Only (MA M j A2 c2) W W' → Only (SgS M W9.heap.size) W9 W' := fun W' h => ((((Only.of hb).trans (hO.wide fun k _ hk => .inl hk)).trans (hW.wide fun k hk h9 => by
    rcases h9 with h9 | h9
    ·exact .inr (hN k h9).1
    ·exact .inr (Nat.le_trans (Nat.le_trans hb.size hO.size) h9))).trans (h.wide fun k hk h9 => by
    rcases (hM k h9).1 with h3 | h3
    ·exact .inl h3
    ·exact .inr (Nat.le_trans hb.size h3)))
   have hNI := hNN (fun k => (Value.slice A8 y.n c8).ownBlock = some k) (fun k hk => (hN k hk).2)
   refine ⟨hjk.box.same (hbl _ hjk.mb), hjk.row.blk fun g hg => hbl g (hjk.mx g hg), hjk.ln, hjk.idx.blk (hbl _ hjk.mi), hjk.rev.blk (hbl _ hjk.mr), fun W' h => (ps_im hps W' (hS W' h)).1, fun W' h => ?_, hjk.mb, hjk.mi, hjk.mr, hjk.mx, hjk.ne, hjk.hs, hjk.hw, hjk.good⟩
   intro q hq
   rcases List.mem_append.1 hq with h1 | h1
   ·exact (ps_im hps W' (hS W' h)).2 q h1
   ·simp at h1
    subst h1
    refine hNI W' ((hW.wide (T := fun k => MA M j A2 c2 k ∨ (Value.slice A8 y.n c8).ownBlock = some k) fun k hk h9 => ?_).trans (h.wide fun k _ hk => .inl hk))
    rcases h9 with h9 | h9
    ·exact .inr h9
    ·omega
 ·have hB := hQ.no h0
  refine ⟨Only.of hB, M, j, hps.jb, by rw [if_neg h0]; exact hps.es, fun k hk => ⟨.inl hk, Nat.lt_of_lt_of_le (hps.mw k hk).2 (Nat.le_trans hb.size hB.size)⟩, fun W hW => ?_⟩
  have hj13 := hj12.up hB
  have hlt : ∀ k, M k → k < W13.heap.size := fun k hk => Nat.lt_of_lt_of_le (hps.mw k hk).2 (Nat.le_trans hb.size hB.size)
  have hbl : ∀ k, M k → W.heap[k]? = W13.heap[k]? := fun k hk => hW.blk k (hlt k hk) (fun h9 => by
   rcases h9 with h9 | h9
   ·have := (hN k h9).1; have := (hps.mw k hk).2; omega
   ·have := hlt k hk; omega)
  have hS : ∀ W', Only M W W' → Only (SgS M W9.heap.size) W9 W' := fun W' h => (((Only.of hb).trans (Only.of hB)).trans (hW.wide fun k hk h9 => by
    rcases h9 with h9 | h9
    ·exact .inr (hN k h9).1
    ·exact .inr (Nat.le_trans (Nat.le_trans hb.size hB.size) h9))).trans (h.wide fun k hk h9 => .inl h9)
  exact ⟨hj13.box.same (hbl _ hj13.mb), hj13.row.blk fun g hg => hbl g (hj13.mx g hg), hj13.ln, hj13.idx.blk (hbl _ hj13.mi), hj13.rev.blk (hbl _ hj13.mr), fun W' h => (ps_im hps W' (hS W' h)).1, fun W' h => (ps_im hps W' (hS W' h)).2, hj13.mb, hj13.mi, hj13.mr, hj13.mx, hj13.ne, hj13.hs, hj13.hw, hj13.good⟩
end
theorem en_small {w : World} {B : Nat} {v : Value} {Zs Os : List Etl} {y : Ety} {Y : List Lnk} {E : Int} (hc : CopP w B v Zs) (he : Zs.map pe = (if E = 0 then Os ++ [(y, Y)] else Os).map pe) (ho : ∀ p ∈ Os, p.2.length ≤ 1000) (hy : Y.length ≤ 1000) : ∀ e ∈ Zs.map (·.1), e.n ≤ 1000 := fun e h => by
 obtain ⟨p, hp, rfl⟩ := List.mem_map.1 h
 rw [← (hc.lns p hp).1]
 have h5 : pe p ∈ (if E = 0 then Os ++ [(y, Y)] else Os).map pe := by rw [← he]; exact List.mem_map_of_mem hp
 obtain ⟨q, hq, e9⟩ := List.mem_map.1 h5
 rw [show p.2 = q.2 from (congrArg PE.ls e9).symm]
 split at hq
 ·rcases List.mem_append.1 hq with h8 | h8
  ·exact ho _ h8
  ·simp at h8
   subst h8
   exact hy
 ·exact ho _ hq
theorem en_len {Zs Os : List Etl} {y : Ety} {Y : List Lnk} {E : Int} (he : Zs.map pe = (if E = 0 then Os ++ [(y, Y)] else Os).map pe) (ho : Os.length ≤ 60) : (Zs.map (·.1)).length ≤ 61 := by
 have h1 := congrArg List.length he
 rw [List.length_map, List.length_map] at h1
 rw [List.length_map, h1]
 split
 ·rw [List.length_append]
  exact Nat.succ_le_succ ho
 ·exact Nat.le_succ_of_le ho
open Go.RowKit
def KpJ (W W' : World) : Prop := W.heap.size ≤ W'.heap.size ∧ ∀ (b : Nat) (cs : Array Value) (e : TypeId), W.heap[b]? = some (Obj.cells cs e) → e ≠ 42 ∨ cs.size = 7 → W'.heap[b]? = W.heap[b]?
section
variable {W W' : World}
theorem KpJ.of (h : Below W.heap.size W W') : KpJ W W' := ⟨h.size, fun b cs e hb _ => h.block b (by
 rcases Nat.lt_or_ge b W.heap.size with h1 | h1
 ·exact h1
 ·rw [Array.getElem?_eq_none h1] at hb; cases hb)⟩
theorem KpJ.wh {x : Ety} {b : Nat} (h : KpJ W W') (hw : Wh 42 W b (etyC x)) : Wh 42 W' b (etyC x) := hw.same (h.2 b _ _ hw.blk (.inr rfl))
end
section
variable {α : Type} {R : Lay α} {e : TypeId} {w : World}
theorem wp_appJ_grow {P : Program} {o : Oper} {a : Act} {K : Act → World → Prop} {Q : Exit → Act → World → Prop} (s x : Operand) (t : TypeId)
  (ho : o.op = .call { callee := .builtin .append, args := #[s, x], argTypes := #[t, t] })
  (i : TypeInfo) (z : Value) (bytes : Nat) (ht : P.underlying t = some (.slice e)) (hi : P.info? e = some i) (hz : i.zero = some z) (hsize : i.size = R.s) (hby : i.bytes = bytes) (hb8 : bytes ≤ 1000) (hzs : z.cells.size = R.s)
  (b off cap : Nat) (L : List α) (hs : a.eval s = .slice (some ⟨b, off, none⟩) L.length cap) (hL : RowAt R w (some ⟨b, off, none⟩) L) (X : Option Addr) (m c : Nat) (M : List α) (hm : M.length = m) (hx : a.eval x = .slice X m c) (hX : RowAt R w X M) (h0 : 0 < m)
  (hfull : cap < L.length + m) (hlen : L.length + m ≤ 100000000)
  (h : ∀ v' w', Hid (OwnR R e w' w.heap.size v' (L ++ M)) → Hid (w.grownBy w' none) → K (a.put o.dst v') w') : Oper.wp P o a w K Q := by
 subst hm
 have hbb : (L.length + M.length) * bytes ≤ (L.length + M.length) * 1000 := Nat.mul_le_mul_left _ hb8
 obtain ⟨b2, off2, rfl, -, hc⟩ := hX h0
 obtain ⟨v', w', hr, h2, h3⟩ := run_append_arg_grows (P := P) (w := w) t o.type e i z R.s bytes ht hi hz hsize hby hzs R.pos ⟨b, off, none⟩ L.length cap (R.all L) (R.all_len L)
  (fun j u hj => by
   rw [addr_add]
   have hl : 0 < L.length := by
    rcases Nat.eq_zero_or_pos L.length with h9 | h9
    ·obtain rfl : L = [] := List.eq_nil_of_length_eq_zero h9
     simp [Lay.all] at hj
    ·exact h9
   obtain ⟨b3, o3, e3, -, hr3⟩ := hL hl
   cases e3
   exact hr3 j u hj) ⟨b2, off2, none⟩ M.length c (R.all M) (R.all_len M) (fun j u hj => by rw [addr_add]; exact hc j u hj) hfull (by unfold maxLen; omega) (by omega)
 unfold Oper.wp execOp
 simp only [ho, resolve, invoke, builtin, Sem.run_bind, Sem.run_pure, Result.andThen_ok, List.map_toArray, List.map_cons, List.map_nil, hs, hx, hr]
 refine h v' w' (Lib.hid ?_) (Lib.hid h3)
 unfold OwnR
 rw [List.length_append, R.all_append]
 exact h2
end
theorem wp_appJ_ety {P : Program} {o : Oper} {a : Act} {w : World} {K : Act → World → Prop} {Q : Exit → Act → World → Prop} (s x : Operand) (t : TypeId)
  (ho : o.op = .call { callee := .builtin .append, args := #[s, x], argTypes := #[t, t] })
  (i : TypeInfo) (z : Value) (bytes : Nat) (ht : P.underlying t = some (.slice 42)) (hi : P.info? 42 = some i) (hz : i.zero = some z) (hsize : i.size = lyX.s) (hby : i.bytes = bytes) (hb8 : bytes ≤ 1000) (hzs : z.cells.size = lyX.s)
  {v : Value} {B : Nat} {L : List Ety} (hs : a.eval s = v) (hown : OwnR lyX 42 w B v L) (h0 : 0 < L.length) (b : Nat) (y : Ety) (hx : a.eval x = .slice (some ⟨b, 0, none⟩) 1 1) (hw : Wh 42 w b (etyC y)) (hlen : L.length + 1 ≤ 100000000) (hB : B ≤ w.heap.size)
  (h : ∀ v' w', OwnR lyX 42 w' B v' (L ++ [y]) → KpJ w w' → Below B w w' → K (a.put o.dst v') w') : Oper.wp P o a w K Q := by
 rcases hown.2 with ⟨rfl, h9⟩ | ⟨g, cap, cur, rfl, hbg, hg, hn, hcap, hcs, hcur⟩
 ·omega
 by_cases hf : cap < L.length + 1
 ·obtain ⟨A9, c9, e9, hr9, -⟩ := hown.reads
  injection e9 with e9 _ _
  rw [← e9] at hr9
  refine wp_appJ_grow (R := lyX) s x t ho i z bytes ht hi hz hsize hby hb8 hzs g 0 cap L hs hr9 (some ⟨b, 0, none⟩) 1 1 [y] rfl hx (row_one hw) (by decide) hf hlen ?_
  intro v' w' h1 h2
  have h3 : Below w.heap.size w w' := (Below.refl _ _).grown h2.out (Nat.le_refl _) (fun k hk => by cases hk)
  exact h _ _ (h1.out.low hB) (KpJ.of h3) (h3.mono hB)
 ·refine wp_app_row (R := lyX) s x t ho i z bytes ht hi hz hsize hby hb8 hzs hs hown (some ⟨b, 0, none⟩) 1 1 [y] rfl hx (row_one hw) hlen hB ?_
  intro v' w' h1 h2 _
  refine h _ _ h1.out ⟨h2.out.size, fun b' cs e' hb' hc => ?_⟩ ((Below.refl _ _).grown h2.out hB (fun k hk => by cases hk; exact hbg))
  refine h2.out.block b' ?_ fun he => ?_
  ·rcases Nat.lt_or_ge b' w.heap.size with h3 | h3
   ·exact h3
   ·rw [Array.getElem?_eq_none h3] at hb'; cases hb'
  ·cases he
   rw [hg] at hb'
   injection hb' with hb'
   injection hb' with h3 h4
   subst h3 h4
   rcases hc with hc | hc
   ·exact hc rfl
   ·have : cap * 7 = 7 := hcs.symm.trans hc
    omega
theorem wp_appJ_nil {P : Program} {o : Oper} {a : Act} {w : World} {K : Act → World → Prop} {Q : Exit → Act → World → Prop} (s x : Operand) (t : TypeId) {e : TypeId}
  (ho : o.op = .call { callee := .builtin .append, args := #[s, x], argTypes := #[t, t] }) (i : TypeInfo) (ht : P.underlying t = some (.slice e)) (hi : P.info? e = some i)
  (b off : Nat) (hs : a.eval s = .slice (some ⟨b, off, none⟩) 0 0) (X : Option Addr) (m c : Nat) (hx : a.eval x = .slice X m c) (hm : m = 0)
  (h : K (a.put o.dst (.slice (some ⟨b, off, none⟩) 0 0)) w) : Oper.wp P o a w K Q := by
 subst hm
 have hrun : (Builtin.append_ #[t, t] o.type #[.slice (some ⟨b, off, none⟩) 0 0, .slice X 0 c]).run P w = .ok (.slice (some ⟨b, off, none⟩) 0 0) w := by
  cases X <;> simp [Builtin.append_, run_underlying ht, sizeOf, typeInfo, hi, Builtin.lenOf, Builtin.firstCells, storeCells, loadCells, loadCellsFrom]
 unfold Oper.wp
 simp [execOp, ho, resolve, invoke, builtin, hs, hx, hrun, Result.andThen]
 exact h
open Go.RowKit
def prT (i : Nat) : Value → Value
 | .tuple vs => vs.getD i undef
 | _ => undef
def slP (Es : List Ety) (A : Option Addr) (nm : Nat) (v : Value) : Prop := ∃ A2 c2, v = .slice A2 nm c2 ∧ ∀ W, RowAt lyX W A Es → RowAt lyX W A2 (Es.take nm)
def slF (Es : List Ety) (A : Option Addr) (nm : Nat) : AU.Fact Below0 := AU.Fact.mk0 (fun v _ => slP Es A nm v) (fun _ _ _ _ h => h)
theorem PsQ.up {g : Grp} {L : List Acc} {G : List Ent} {Xs : List Etl} {w2 W W' : World} {e : Ending} (h : PsQ g L G Xs w2 e W) (hb : Below W.heap.size W W') : PsQ g L G Xs w2 e W' := by
 unfold PsQ at h ⊢
 split
 ·rename_i h1
  rw [if_pos h1] at h
  obtain ⟨jb, j, M, Os, A, c, h2, h3⟩ := h
  exact ⟨jb, j, M, Os, A, c, h2, h3.up hb⟩
 ·rename_i h1
  rw [if_neg h1] at h
  exact h
def jdT (s : Nat) (g : Grp) (L : List Acc) (G : List Ent) (Ps : List Etl) (v : Value) (W : World) : Prop := ∃ w3, s ≤ w3.heap.size ∧ PsQ g L G Ps w3 (.returned v) W ∧ Below w3.heap.size w3 W
def jdP (s : Nat) (g : Grp) (L : List Acc) (G : List Ent) (Ps : List Etl) (v : Value) (W : World) : Prop := ∃ a b c, v = .tuple #[a, b, c] ∧ jdT s g L G Ps (.tuple #[a, b, c]) W
def jdF (s : Nat) (g : Grp) (L : List Acc) (G : List Ent) (Ps : List Etl) : AU.Fact Below0 := AU.Fact.mk0 (jdP s g L G Ps) (fun _ _ _ hb ⟨a, b, c, h1, w3, h0, h2, h3⟩ => ⟨a, b, c, h1, w3, h0, h2.up hb, h3.trans (Below.mono hb h3.size)⟩)
theorem jd_of {s : Nat} {g : Grp} {L : List Acc} {G : List Ent} {Ps : List Etl} {w3 W : World} {e : Ending} (h : PsQ g L G Ps w3 e W) (hs : s ≤ w3.heap.size) (hb : Below w3.heap.size w3 W) : ∃ a b c, e = .returned (.tuple #[a, b, c]) ∧ jdT s g L G Ps (.tuple #[a, b, c]) W := by
 have h0 := h
 unfold PsQ at h
 split at h
 ·obtain ⟨jb, j, M, Os, A, c, rfl, -⟩ := h
  exact ⟨_, _, _, rfl, w3, hs, h0, hb⟩
 ·subst h
  exact ⟨_, _, _, rfl, w3, hs, h0, hb⟩
def jdFa (_s0 s2 n nm c : Nat) (GV : Value) (A : Option Addr) (g : Grp) (L : List Acc) (G : List Ent) (Ps : List Etl) (Es : List Ety) : List (Nat × AU.Fact (Below0)) := [(34, AU.Fact.is (GV)), (35, AU.Fact.is (.slice A n c)), (36, AU.Fact.is (.int .i64 (nm : Int))), (37, slF Es A nm), (38, jdF s2 g L G Ps), (33, AU.Fact.of 38 id), (39, AU.Fact.of 38 (prT 0)), (40, AU.Fact.of 38 (prT 1)), (41, AU.Fact.of 38 (prT 2)), (8, AU.Fact.of 38 (prT 0)), (9, AU.Fact.of 38 (prT 1)), (10, AU.Fact.of 38 (prT 2))]
def cnF21 : AK.Fact KpJ := ⟨fun v _ => ∃ b9, v = .slice (some ⟨b9, 0, none⟩) 0 0, fun _ _ _ _ h => h⟩
def cnP28 (y : Ety) (v : Value) (w : World) : Prop := ∃ b, v = .slice (some ⟨b, 0, none⟩) 1 1 ∧ Wh 42 w b (etyC y)
def cnF28 (y : Ety) : AK.Fact KpJ := ⟨cnP28 y, fun _ _ _ hb ⟨b, h1, h2⟩ => ⟨b, h1, hb.wh h2⟩⟩
def cnE (w0 : World) (y : Ety) (Es : List Ety) (W : World) (v : Value) : Nat → Prop
 | 0 => True
 | 1 => (0 < Es.length ∧ OwnR lyX 42 W w0.heap.size v Es) ∨ (Es.length = 0 ∧ ∃ b, v = .slice (some ⟨b, 0, none⟩) 0 0)
 | _ => OwnR lyX 42 W w0.heap.size v (Es ++ [y])
def cnJ (w0 : World) (y : Ety) (Es : List Ety) (k : Nat) (l : List Value) (W : World) : Prop := Below w0.heap.size w0 W ∧ ∀ v, l = [v] → cnE w0 y Es W v k
theorem cnJ.st (w0 : World) (y : Ety) (Es : List Ety) (k : Nat) (l : List Value) (W W' : World) (hb : Below W.heap.size W W') (h : cnJ w0 y Es k l W) : cnJ w0 y Es k l W' :=
 ⟨h.1.trans (hb.mono h.1.size), fun v hv => by
  have h2 := h.2 v hv
  match k, h2 with
  | 0, _ => trivial
  | 1, .inl ⟨h3, h4⟩ => exact .inl ⟨h3, OwnR.up h4 hb⟩
  | 1, .inr h3 => exact .inr h3
  | _ + 2, h3 => exact OwnR.up h3 hb⟩
def cnFa (bb off n c nm o5 c5 : Nat) (A5 : Option Addr) (y : Ety) : List (Nat × AK.Fact (KpJ)) := [(121, cnF21), (122, AK.Fact.is (.slice A5 o5 c5)), (123, AK.Fact.triv), (124, AK.Fact.is (.slice (some ⟨bb, off, none⟩) n c)), (125, AK.Fact.is (.int .i64 (nm : Int))), (126, AK.Fact.is (.pointer (some ⟨bb, off + nm * 7, none⟩))), (127, AK.Fact.is (etyV y)), (128, cnF28 y), (129, AK.Fact.triv), (18, AK.Fact.triv)]
def cnFb (bb off n c nm _s0 jb p o5 c5 o2 c2 : Nat) (A5 A2 : Option Addr) (GV YV : Value) (a b E : Int) : List (Nat × AK.Fact (Below0)) := [(130, AK.Fact.is (.pointer (some ⟨p, 0, none⟩))), (131, AK.Fact.is (.slice A5 o5 c5)), (132, AK.Fact.is (.agg #[.int .i64 a, .int .i64 b])), (133, AK.Fact.is (.bool true)), (134, AK.Fact.is (.bool true)), (135, AK.Fact.is (.pointer (some ⟨jb, 0, none⟩))), (136, AK.Fact.is (.slice A2 o2 c2)), (137, AK.Fact.is (.agg #[.int .i64 a, .int .i64 b])), (138, AK.Fact.is (.bool true)), (139, AK.Fact.is (.bool true)), (140, AK.Fact.is (.bool true)), (141, AK.Fact.is (.int .i64 E)), (142, AK.Fact.is (GV)), (143, AK.Fact.is (.slice A5 o5 c5)), (144, AK.Fact.is (.slice (some ⟨bb, off, none⟩) n c)), (145, AK.Fact.is (.int .i64 (nm : Int))), (146, AK.Fact.is (.pointer (some ⟨bb, off + nm * 7, none⟩))), (147, AK.Fact.is (YV)), (148, AK.Fact.is (.int .i64 E)), (149, AK.Fact.is (.bool true)), (150, AK.Fact.is (.bool true)), (6, AK.Fact.is (.bool true))]
set_option maxRecDepth 100000 in
set_option maxHeartbeats 12800000 in
theorem law_jclo (g : Grp) (L : List Acc) (G : List Ent) (A : Option Addr) (n c : Nat) (Xs : List Etl) (a b : Int) (w : World) (ha : (Lit.int .i64 a).wf = true) (hk : GrK w g L G) (hw : GrW g L G) (hmx : g.m ≤ 9223372036854775807) (hn : Xs.length = n) (hcn : n ≤ c) (hnm : n ≤ 9223372036854775807) (hX : RowAt lyX w A (Xs.map (·.1))) (hq : ∀ a ∈ Xs, EtyK w a.1 a.2 ∧ a.1.n ≤ 9223372036854775807 ∧ a.1.txt.size ≤ maxLen ∧ EtyW a.1) :
  Calls Tryz.prog 3 #[grpV g, .slice A n c, .agg #[.int .i64 a, .int .i64 b]] w fun e w' => e = .returned (.bool true) ∧ Below w.heap.size w w' := by
 have HAW := Lib.hid jawake_any
 obtain ⟨s0, hs0⟩ : ∃ s0, w.heap.size = s0 := ⟨_, rfl⟩
 obtain ⟨w2, hw2⟩ : ∃ w2, (w.alloc (.cells #[.string g.cur, .int .i64 g.cy, .int .i64 g.cm, .int .i64 g.cp, .slice g.A g.n g.c, .int .i64 g.r0, .int .i64 g.r1, .int .i64 g.r2, .int .i64 g.r3, .int .i64 g.r4, .int .i64 g.r5, .int .i64 g.r6, .int .i64 g.r7, .int .i64 g.r8, .int .i64 g.r9, .int .i64 g.r10, .int .i64 g.r11, .int .i64 g.r12, .int .i64 g.r13, .int .i64 g.r14, .slice g.E g.m g.d] 29)).alloc (.cells #[.int .i64 a, .int .i64 b] 32) = w2 := ⟨_, rfl⟩
 have HGB : Hid (Wh 29 w2 s0 (grpC g)) := Lib.hid (by rw [← hw2, ← hs0]; exact (Wh.new w 29 (grpC g)).up (below_alloc_new _))
 have HAB : Hid (Wh 32 w2 (s0 + 1) [.int .i64 a, .int .i64 b]) := Lib.hid (by
  rw [← hw2, ← hs0]
  have h9 := Wh.new (w.alloc (.cells #[.string g.cur, .int .i64 g.cy, .int .i64 g.cm, .int .i64 g.cp, .slice g.A g.n g.c, .int .i64 g.r0, .int .i64 g.r1, .int .i64 g.r2, .int .i64 g.r3, .int .i64 g.r4, .int .i64 g.r5, .int .i64 g.r6, .int .i64 g.r7, .int .i64 g.r8, .int .i64 g.r9, .int .i64 g.r10, .int .i64 g.r11, .int .i64 g.r12, .int .i64 g.r13, .int .i64 g.r14, .slice g.E g.m g.d] 29)) 32 [.int .i64 a, .int .i64 b]
  rw [World.size_alloc] at h9
  exact h9)
 have HB2 : Hid (Below w.heap.size w w2) := Lib.hid (by rw [← hw2]; exact below_new (below_alloc_new _) _)
 have HKC := Lib.hid (hk.up HB2.out)
 have HXC := Lib.hid (hX.up HB2.out)
 have HEC : Hid (EtysK w2 Xs) := Lib.hid (fun p hp => (hq p hp).1.up HB2.out)
 have HQ : Hid (∀ p ∈ Xs, p.1.n ≤ 9223372036854775807 ∧ p.1.txt.size ≤ maxLen ∧ EtyW p.1) := Lib.hid (fun p hp => (hq p hp).2)
 have HWW := Lib.hid hw
 have HS0 := Lib.hid hs0
 have HNL := Lib.hid hn
 have HCN := Lib.hid hcn
 have HA := Lib.hid ha
 have HBC := Lib.hid (Below.refl w2.heap.size w2)
 obtain ⟨GV, hGV⟩ : ∃ GV, GV = grpV g := ⟨_, rfl⟩
 have HGV := Lib.hid hGV
 have HFW := Lib.hid (fun W (h : Below w2.heap.size w2 W) => by have h9 := r12few_any g G A c Xs W (HKC.out.up h).he hk.lg hmx (HXC.out.up h) (HEC.out.up h) (by rw [hn]; exact hnm) (fun p hp => ⟨(hq p hp).2.1, (hq p hp).2.2.1⟩); rw [← hGV, hn] at h9; exact h9)
 have HLG : Hid (∀ w9, Below w2.heap.size w2 w9 → (Instr.loadAt 29 (.pointer (some ⟨s0, 0, none⟩))).run Tryz.prog w9 = .ok GV w9) := Lib.hid (fun w9 h9 => by rw [hGV, grpV_is]; exact (HGB.out.up h9).rg.load 0 29 (grpC g) rfl _ Tryz.underlying29 rfl (by kernel_rfl))
 have HNM9 := Lib.hid hnm
 clear hk hGV hw hX hq hn hmx hnm ha
 have HM1 : True := trivial
 have HM2 : True := trivial
 cases hf : fewX Xs && few10 g G
 ·rw [hf] at HFW
  clear hf
  go_enter Tryz.func3, Tryz.ntmps3
  go_wp2_with (first
   | (go_at_call 4; refine (HAW.out _).mono ?_; rintro e w3 ⟨rfl, hb⟩; have hB3 := Lib.hid (HBC.out.trans (hb.mono HBC.out.size)); clear hb HBC; have HBC := hB3; clear hB3)
   | (clear HM1; refine wpList_load_is rfl 29 _ rfl (.pointer (some ⟨s0, 0, none⟩)) rfl GV (HLG.out _ HBC.out) ?_)
   | (go_at_call 5; refine (HFW.out _ HBC.out).mono ?_; rintro e w4 ⟨rfl, hb⟩; have hB3 := Lib.hid (HBC.out.trans (hb.mono HBC.out.size)); clear hb HBC; have HBC := hB3; clear hB3))
  go_ret
  exact ⟨by first | rfl | simp, (by have h9 := HB2.out.trans (HBC.out.mono HB2.out.size); first | exact h9 | (rw [← HS0.out]; exact h9))⟩
 ·rw [hf] at HFW
  have HFI := Lib.hid (few_is hf)
  clear hf
  by_cases hn0 : n = 0
  ·have e0 : ((n : Int) == 0) = true := by simp [hn0]
   clear hn0
   go_enter Tryz.func3, Tryz.ntmps3
   go_wp2_with (first
    | (go_at_call 4; refine (HAW.out _).mono ?_; rintro e w3 ⟨rfl, hb⟩; have hB3 := Lib.hid (HBC.out.trans (hb.mono HBC.out.size)); clear hb HBC; have HBC := hB3; clear hB3)
    | (clear HM1; refine wpList_load_is rfl 29 _ rfl (.pointer (some ⟨s0, 0, none⟩)) rfl GV (HLG.out _ HBC.out) ?_)
    | (go_at_call 5; refine (HFW.out _ HBC.out).mono ?_; rintro e w4 ⟨rfl, hb⟩; have hB3 := Lib.hid (HBC.out.trans (hb.mono HBC.out.size)); clear hb HBC; have HBC := hB3; clear hB3))
   go_ret
   exact ⟨by first | rfl | simp, (by have h9 := HB2.out.trans (HBC.out.mono HB2.out.size); first | exact h9 | (rw [← HS0.out]; exact h9))⟩
  have e0 : ((n : Int) == 0) = false := by simp [hn0]
  obtain ⟨nm, hnm⟩ : ∃ nm : Nat, n = nm + 1 := ⟨n - 1, by omega⟩
  have ha1 : wrap64 ((n : Int) - 1) = (nm : Int) := by have := HNM9.out; unfold wrap64; omega
  obtain ⟨Es, hEs⟩ : ∃ Es, Xs.map (·.1) = Es := ⟨_, rfl⟩
  obtain ⟨Ps, hPs⟩ : ∃ Ps, Xs.take nm = Ps := ⟨_, rfl⟩
  have HES := Lib.hid hEs
  have HPS0 := Lib.hid hPs
  have HEN : Hid (Es.length = n) := Lib.hid (by rw [← hEs, List.length_map, HNL.out])
  have HN1 : Hid (n = nm + 1) := Lib.hid hnm
  have HNM : Hid (nm ≤ n) := Lib.hid (by omega)
  have HCC : Hid (n ≤ c) := HCN
  have HPL : Hid (Ps.length = nm) := Lib.hid (by rw [← hPs, List.length_take, HNL.out]; omega)
  have HSB : Hid (∀ p ∈ Ps, p ∈ Xs) := Lib.hid (fun p hp => by rw [← hPs] at hp; exact List.mem_of_mem_take hp)
  have HPO : Hid (∀ A2 c2 W, (∀ W, RowAt lyX W A Es → RowAt lyX W A2 (Es.take nm)) → Below w2.heap.size w2 W → Calls Tryz.prog 6 #[GV, .slice A2 nm c2] W fun e w' => (∃ a b c, e = .returned (.tuple #[a, b, c]) ∧ jdT w2.heap.size g L G Ps (.tuple #[a, b, c]) w') ∧ Below W.heap.size W w') := Lib.hid (fun A2 c2 W hr hb => by
   have h9 := posted_any g L G A2 c2 Ps W (HKC.out.up hb) HFI.out.1 HWW.out (by rw [← HPS0.out, List.map_take, HES.out]; exact hr W (by rw [← HES.out]; exact HXC.out.up hb)) (fun p hp => (HEC.out.up hb) p (HSB.out p hp)) (by rw [HPL.out]; have := HFI.out.2.1; have := HNM.out; have := HNL.out; omega) (fun p hp => ⟨by have := HFI.out.2.2 p (HSB.out p hp); omega, (HQ.out p (HSB.out p hp)).2.1, (HQ.out p (HSB.out p hp)).2.2.id, (HQ.out p (HSB.out p hp)).2.2.of_⟩)
   rw [← HGV.out, HPL.out] at h9
   exact h9.mono fun e w' ⟨w3, q1, q2, q3⟩ => ⟨jd_of q2 (Nat.le_trans hb.size q1.size) q3, q1.trans (q3.mono q1.size)⟩)
  clear hEs hPs hnm hn0
  obtain ⟨i0, hi, hz1, hz2, hz3⟩ := info_parts infoEx
  go_enter Tryz.func3, Tryz.ntmps3
  go_upto_region 6 with (first
   | (go_at_call 4; refine (HAW.out _).mono ?_; rintro e w3 ⟨rfl, hb⟩; have hB3 := Lib.hid (HBC.out.trans (hb.mono HBC.out.size)); clear hb HBC; have HBC := hB3; clear hB3)
   | (clear HM1; refine wpList_load_is rfl 29 _ rfl (.pointer (some ⟨s0, 0, none⟩)) rfl GV (HLG.out _ HBC.out) ?_)
   | (go_at_call 5; refine (HFW.out _ HBC.out).mono ?_; rintro e w4 ⟨rfl, hb⟩; have hB3 := Lib.hid (HBC.out.trans (hb.mono HBC.out.size)); clear hb HBC; have HBC := hB3; clear hB3))
  simp only [ha1]
  clear ha1
  refine AU.region_facts (Rp := Below0) (Kp := Below0) (jdFa s0 w2.heap.size n nm c GV A g L G Ps Es) (fun _ _ W => Below w4.heap.size w4 W) [[], [], [], [35, 36], [34, 37], [38], [33, 38], [33, 38], [33, 38], [39, 38], [40, 38], [41, 38]] [] [[]] [0, 0, 0, 0, 0, 0, 0, 0, 0, 0, 0, 0] [0, 0, 0, 0, 0, 0, 0, 0, 0, 0, 0, 0] [] (fun u => by simp only [jdFa, AU.temps, List.map_cons, List.map_nil, fillL, List.setIfInBounds_toArray, List.set_cons_zero, List.set_cons_succ]; rfl) (by kernel_rfl) (by kernel_rfl) (by kernel_rfl) (fun _ _ h => h.size) (fun _ _ h => h) (fun _ _ _ _ hb h => h.trans (hb.mono h.size)) (dc_drew (Below.refl _ _)) ?_ ?_
  ·refine AU.sc (lim := 0) (lo := 0) rfl rfl rfl rfl ?_ ?_
   ·intro k_ u w_ hk_ hl_ hJ hF K hK
    clear hF
    have hb_ := HBC.out.trans (hJ.mono HBC.out.size)
    refine wp_load_is 29 _ rfl (.pointer (some ⟨s0, 0, none⟩)) rfl GV (HLG.out _ hb_) ?_
    exact hK.out _ _ bR rfl trivial
   refine AU.sc (lim := 0) (lo := 0) rfl rfl rfl rfl ?_ ?_
   ·intro k_ u w_ hk_ hl_ hJ hF K hK
    clear hF
    go_simp
    exact hK.out _ _ bR (rfl) trivial
   refine AU.sc (lim := 0) (lo := 0) rfl rfl rfl rfl ?_ ?_
   ·intro k_ u w_ hk_ hl_ hJ hF K hK
    clear hF
    go_simp
    exact hK.out _ _ bR (rfl) trivial
   refine AU.sc (lim := 0) (lo := 0) rfl rfl rfl rfl ?_ ?_
   ·intro k_ u w_ hk_ hl_ hJ hF K hK
    have h35 : u 35 = .slice A n c := AU.facts_get hF 35 (by simp)
    have h36 : u 36 = .int .i64 (nm : Int) := AU.facts_get hF 36 (by simp)
    clear hF
    simp only [h35, h36] at hK ⊢
    clear h35 h36
    rw [if_pos (by rfl)]
    refine wp_slc_h (R := lyX) 30 _ _ rfl Tryz.underlying30 i0 hi hz2 A n c nm Es HEN.out rfl rfl HNM.out HCC.out ?_
    intro A2 c2 hr2
    exact hK.out _ _ bR ⟨A2, c2, rfl, hr2⟩ trivial
   refine AU.sc (lim := 0) (lo := 0) rfl rfl rfl rfl ?_ ?_
   ·intro k_ u w_ hk_ hl_ hJ hF K hK
    have h34 : u 34 = GV := AU.facts_get hF 34 (by simp)
    have h37 : slP Es A nm (u 37) := AU.facts_get hF 37 (by simp)
    clear hF
    obtain ⟨A2_, c2_, h37, hr2_⟩ := h37
    simp only [h34, h37] at hK ⊢
    clear h34 h37
    go_simp
    have hb_ := HBC.out.trans (hJ.mono HBC.out.size)
    refine (HPO.out _ _ _ hr2_ hb_).mono ?_
    rintro r w6 ⟨⟨a_, b_, c_, rfl, hT_⟩, hb6⟩
    exact hK.out _ _ hb6 ⟨a_, b_, c_, rfl, hT_⟩ trivial
   refine AU.sc (lim := 0) (lo := 0) rfl rfl rfl rfl ?_ ?_
   ·intro k_ u w_ hk_ hl_ hJ hF K hK
    have h38 : jdP w2.heap.size g L G Ps (u 38) w_ := AU.facts_get hF 38 (by simp)
    clear hF
    obtain ⟨a_, b_, c_, h38, hT_⟩ := h38
    have e38_ := Lib.hid h38
    simp only [h38] at hK ⊢
    clear h38
    go_simp
    exact hK.out _ _ bR (show _ = id (u 38) by first | (rw [e38_.out]; done) | (rw [e38_.out]; rfl)) trivial
   refine AU.sc (lim := 0) (lo := 0) rfl rfl rfl rfl ?_ ?_
   ·intro k_ u w_ hk_ hl_ hJ hF K hK
    have h33 : u 33 = u 38 := AU.facts_get hF 33 (by simp)
    have h38 : jdP w2.heap.size g L G Ps (u 38) w_ := AU.facts_get hF 38 (by simp)
    clear hF
    obtain ⟨a_, b_, c_, h38, hT_⟩ := h38
    have e38_ := Lib.hid h38
    rw [h38] at h33
    clear h38
    simp only [h33] at hK ⊢
    clear h33
    go_simp
    exact hK.out a_ _ (Below.refl _ _) (show a_ = prT 0 (u 38) by first | (rw [e38_.out]; done) | (rw [e38_.out]; rfl)) trivial
   refine AU.sc (lim := 0) (lo := 0) rfl rfl rfl rfl ?_ ?_
   ·intro k_ u w_ hk_ hl_ hJ hF K hK
    have h33 : u 33 = u 38 := AU.facts_get hF 33 (by simp)
    have h38 : jdP w2.heap.size g L G Ps (u 38) w_ := AU.facts_get hF 38 (by simp)
    clear hF
    obtain ⟨a_, b_, c_, h38, hT_⟩ := h38
    have e38_ := Lib.hid h38
    rw [h38] at h33
    clear h38
    simp only [h33] at hK ⊢
    clear h33
    go_simp
    exact hK.out b_ _ (Below.refl _ _) (show b_ = prT 1 (u 38) by first | (rw [e38_.out]; done) | (rw [e38_.out]; rfl)) trivial
   refine AU.sc (lim := 0) (lo := 0) rfl rfl rfl rfl ?_ ?_
   ·intro k_ u w_ hk_ hl_ hJ hF K hK
    have h33 : u 33 = u 38 := AU.facts_get hF 33 (by simp)
    have h38 : jdP w2.heap.size g L G Ps (u 38) w_ := AU.facts_get hF 38 (by simp)
    clear hF
    obtain ⟨a_, b_, c_, h38, hT_⟩ := h38
    have e38_ := Lib.hid h38
    rw [h38] at h33
    clear h38
    simp only [h33] at hK ⊢
    clear h33
    go_simp
    exact hK.out c_ _ (Below.refl _ _) (show c_ = prT 2 (u 38) by first | (rw [e38_.out]; done) | (rw [e38_.out]; rfl)) trivial
   refine AU.sc (lim := 0) (lo := 0) rfl rfl rfl rfl ?_ ?_
   ·intro k_ u w_ hk_ hl_ hJ hF K hK
    have h39 : u 39 = prT 0 (u 38) := AU.facts_get hF 39 (by simp)
    have h38 : jdP w2.heap.size g L G Ps (u 38) w_ := AU.facts_get hF 38 (by simp)
    clear hF
    obtain ⟨a_, b_, c_, h38, hT_⟩ := h38
    have e38_ := Lib.hid h38
    rw [h38] at h39
    clear h38
    have h39 : u 39 = a_ := h39
    simp only [h39] at hK ⊢
    clear h39
    go_simp
    exact hK.out a_ _ (Below.refl _ _) (show a_ = prT 0 (u 38) by first | (rw [e38_.out]; done) | (rw [e38_.out]; rfl)) trivial
   refine AU.sc (lim := 0) (lo := 0) rfl rfl rfl rfl ?_ ?_
   ·intro k_ u w_ hk_ hl_ hJ hF K hK
    have h40 : u 40 = prT 1 (u 38) := AU.facts_get hF 40 (by simp)
    have h38 : jdP w2.heap.size g L G Ps (u 38) w_ := AU.facts_get hF 38 (by simp)
    clear hF
    obtain ⟨a_, b_, c_, h38, hT_⟩ := h38
    have e38_ := Lib.hid h38
    rw [h38] at h40
    clear h38
    have h40 : u 40 = b_ := h40
    simp only [h40] at hK ⊢
    clear h40
    go_simp
    exact hK.out b_ _ (Below.refl _ _) (show b_ = prT 1 (u 38) by first | (rw [e38_.out]; done) | (rw [e38_.out]; rfl)) trivial
   refine AU.sc (lim := 0) (lo := 0) rfl rfl rfl rfl ?_ ?_
   ·intro k_ u w_ hk_ hl_ hJ hF K hK
    have h41 : u 41 = prT 2 (u 38) := AU.facts_get hF 41 (by simp)
    have h38 : jdP w2.heap.size g L G Ps (u 38) w_ := AU.facts_get hF 38 (by simp)
    clear hF
    obtain ⟨a_, b_, c_, h38, hT_⟩ := h38
    have e38_ := Lib.hid h38
    rw [h38] at h41
    clear h38
    have h41 : u 41 = c_ := h41
    simp only [h41] at hK ⊢
    clear h41
    go_simp
    exact hK.out c_ _ (Below.refl _ _) (show c_ = prT 2 (u 38) by first | (rw [e38_.out]; done) | (rw [e38_.out]; rfl)) trivial
   exact AU.StepsOk.nil
  ·intro u W9 hJ9 hF
   have h38 : jdP w2.heap.size g L G Ps (u 38) W9 := AU.facts_get hF 38 (by simp [jdFa, AU.temps])
   have h8 : u 8 = prT 0 (u 38) := AU.facts_get hF 8 (by simp [jdFa, AU.temps])
   have h9 : u 9 = prT 1 (u 38) := AU.facts_get hF 9 (by simp [jdFa, AU.temps])
   have h10 : u 10 = prT 2 (u 38) := AU.facts_get hF 10 (by simp [jdFa, AU.temps])
   clear hF
   have HBC9 : Hid (Below w2.heap.size w2 W9) := Lib.hid (HBC.out.trans (hJ9.mono HBC.out.size))
   clear hJ9 HBC
   obtain ⟨a_, b_, c_, h38, hT⟩ := h38
   rw [h38] at h8 h9 h10
   have k8 : u 8 = a_ := h8
   have k9 : u 9 = b_ := h9
   have k10 : u 10 = c_ := h10
   simp only [k8, k9, k10]
   clear k8 k9 k10 h8 h9 h10 h38
   obtain ⟨w3, hw3, hq, hbw⟩ := hT
   unfold PsQ at hq
   by_cases hv : grpP g L G = true
   ·rw [if_pos hv] at hq
    obtain ⟨jb, j, M, Os, A5, c5, he, hps⟩ := hq
    obtain ⟨rfl, rfl, rfl⟩ : a_ = .pointer (some ⟨jb, 0, none⟩) ∧ b_ = .slice A5 Os.length c5 ∧ c_ = .bool true := by simpa using he
    clear he
    have HPS := Lib.hid hps
    have HVG := Lib.hid hv
    have HW3 := Lib.hid hw3
    have HB3W := Lib.hid hbw
    clear hps hv hw3 hbw
    obtain ⟨y_, hy⟩ : ∃ q, Xs[nm]? = some q := ⟨_, List.getElem?_eq_getElem (by rw [HNL.out]; have := HN1.out; omega)⟩
    obtain ⟨y, Y⟩ := y_
    have HYM : Hid ((y, Y) ∈ Xs) := Lib.hid (List.mem_of_getElem? hy)
    have HYE : Hid (Es[nm]? = some y) := Lib.hid (by rw [← HES.out, List.getElem?_map, hy]; rfl)
    clear hy
    have HPL9 : Hid (Ps.length ≤ 60) := Lib.hid (by rw [HPL.out]; have := HFI.out.2.1; have := HNL.out; have := HN1.out; omega)
    have HJN : Hid (j.n ≤ 60) := Lib.hid (by have h1 := HPS.out.jk.len; rw [HPS.out.es, List.length_map] at h1; have := HPS.out.ln; have := HPL9.out; omega)
    have HCL : Hid (Calls Tryz.prog 7 #[.pointer (some ⟨jb, 0, none⟩)] W9 fun e w' => JClQ W9 j e w' ∧ Below W9.heap.size W9 w') := Lib.hid (by have h9 := jclone_any j W9 HPS.out.jk (by have := HJN.out; omega); rw [HPS.out.jb] at h9; exact h9)
    have HOS : Hid (∀ W, Below w2.heap.size w2 W → EtysK W Os) := Lib.hid (fun W hb p hp => (HEC.out.up hb) p (HSB.out p (HPS.out.sub p hp)))
    have HON : Hid (∀ p ∈ Os, p.1.n ≤ 1000) := Lib.hid (fun p hp => by have := HFI.out.2.2 p (HSB.out p (HPS.out.sub p hp)); omega)
    have HLW : Hid (∀ W, Only (SgS M W9.heap.size) W9 W → Below w2.heap.size w2 W) := Lib.hid (fun W h => HBC9.out.trans (h.below (fun k hk => by
     rcases hk with hk | hk
     ·have := (HPS.out.mw k hk).1; have := HW3.out; omega
     ·have := HBC9.out.size; omega) HBC9.out.size))
    have HQR : Hid (∀ W, Below w2.heap.size w2 W → W.cell? ⟨s0 + 1, 0, none⟩ = some (.int .i64 a) ∧ W.cell? ⟨s0 + 1, 1, none⟩ = some (.int .i64 b)) := Lib.hid (fun W h => ⟨(HAB.out.up h).at 0 _ rfl, (HAB.out.up h).at 1 _ rfl⟩)
    have HB2L : Hid (Below w.heap.size w w2) := HB2
    have HM8 : True := trivial
    go_upto_region 12 with (first
     | (go_at_call 7; refine HCL.out.mono ?_; rintro e w10 ⟨⟨p, A6, c6, b1, b2, rfl, hp1, hp2, hp3⟩, hb⟩; have HP1 := Lib.hid hp1; have HP2 := Lib.hid hp2; have HP3 := Lib.hid hp3; have HB10 := Lib.hid hb; clear hp1 hp2 hp3 hb; obtain ⟨q0, q1⟩ := HQR.out _ (HBC9.out.trans (HB10.out.mono HBC9.out.size)); have HSG := Lib.hid (fun W hO hk => clo_sg (W := W) HPS.out HP1.out HP2.out HP3.out hO hk); have HCT := Lib.hid (clm_lt HP1.out HP2.out HP3.out))
     | (go_at_call 8; refine (lsameG_any A5 c5 a b _ (HSG.out _ (Only.of HB10.out) (fun _ _ => rfl)) (HOS.out _ (HLW.out _ (Only.of HB10.out))) HON.out (by have := HPL9.out; omega) HA.out).mono ?_; rintro e w11 ⟨rfl, hb⟩; have HB11 := Lib.hid hb; clear hb))
    have hkz : ((nm : Nat) : Int) < (n : Int) := by have := HN1.out; omega
    have hym : (Xs.map (·.1))[nm]? = some y := by rw [HES.out]; exact HYE.out
    obtain ⟨bb, off, hA, hbl, hrg⟩ := HXC.out.at hym
    subst hA
    have HLY : Hid (∀ W, Below w2.heap.size w2 W → (Instr.loadAt 42 (.pointer (some ⟨bb, off + nm * 7, none⟩))).run Tryz.prog W = .ok (etyV y) W) := Lib.hid (fun W hW => by rw [etyV_is]; exact run_loadAt_mid W bb (off + nm * 7) 42 (etyC y) _ (fun jj v hv => (hW.cell (p := ⟨bb, off + nm * 7 + jj, none⟩) hbl).trans (hrg jj v hv)) Tryz.underlying42 rfl (by kernel_rfl))
    clear hym hbl hrg
    have HY1 : Hid (y.n ≤ 1000) := Lib.hid (by have := HFI.out.2.2 _ HYM.out; first | omega | (simp at this; omega))
    have HYK := Lib.hid (HEC.out _ HYM.out)
    have HO11 : Hid (Only (SgS M W9.heap.size) W9 w11) := Lib.hid ((Only.of HB10.out).trans (Only.of HB11.out))
    have HB211 : Hid (Below w2.heap.size w2 w11) := Lib.hid (HLW.out _ HO11.out)
    have HB911 : Hid (Below W9.heap.size W9 w11) := Lib.hid (HB10.out.trans (HB11.out.mono HB10.out.size))
    obtain ⟨s11, hs11⟩ : ∃ s, w11.heap.size = s := ⟨_, rfl⟩
    have HS11 := Lib.hid hs11
    clear hs11
    obtain ⟨i1, li, lz1, lz2, lz3⟩ := info_parts infoLn
    obtain ⟨w12, hw12⟩ : ∃ w, w11.alloc (.cells #[.int .i64 y.id, .int .i64 y.ent, .int .i64 y.day, .int .i64 y.kind, .int .i64 y.of_, .string y.txt, .slice y.A y.n y.c] 42) = w := ⟨_, rfl⟩
    have HX12 : Hid (Wh 42 w12 s11 (etyC y)) := Lib.hid (by rw [← hw12, ← HS11.out]; exact Wh.new w11 42 (etyC y))
    have HB12 : Hid (Below w11.heap.size w11 w12) := Lib.hid (by rw [← hw12]; exact below_alloc_new _)
    have c6 : (w12.alloc (.cells #[] 46)).cell? ⟨s11, 6, none⟩ = some (.slice y.A y.n y.c) := (HX12.out.up (below_alloc_new _)).at 6 _ rfl
    have HE12 : Hid (OwnR lyL 46 (w12.alloc (.cells #[] 46)) w12.heap.size (.slice (some ⟨w12.heap.size, 0, none⟩) 0 0) []) := Lib.hid (OwnR.empty (Nat.le_refl _))
    have HR12 : Hid (RowAt lyL (w12.alloc (.cells #[] 46)) y.A Y) := Lib.hid ((lnk_row.2 (HYK.out.up (HB211.out.trans (HB12.out.mono HB211.out.size))).hz).up (below_alloc_new _))
    have hs11 := HS11.out
    have HMA : True := trivial
    go_upto_region 14 with (first
     | (clear HMA; refine wpList_load_is rfl 42 _ rfl (.pointer (some ⟨bb, off + nm * 7, none⟩)) rfl (etyV y) (HLY.out _ HB211.out) ?_)
     | (at_builtin; refine wpList_app_row (R := lyL) (v := .slice (some ⟨w12.heap.size, 0, none⟩) 0 0) rfl (.tmp 64) (.tmp 66) 40 rfl i1 _ 24 Tryz.underlying40 li lz1 lz2 lz3 (by omega) rfl rfl HE12.out y.A y.n y.c Y HYK.out.ln rfl HR12.out (by have := HY1.out; simp; omega) (Nat.le_of_lt (by simp)) ?_; intro v13 w13 ho13 hg13 hn13; obtain ⟨A8, c8, e5, -, -⟩ := ho13.out.reads; rw [List.nil_append, HYK.out.ln] at e5; obtain rfl := e5; have hb13 : Below w12.heap.size w12 w13 := (below_alloc_new _).grown hg13.out (by simp) (fun k hk => Nat.le_of_eq (Option.some.inj hk)); have hx13 := HX12.out.up hb13; have d6 := hx13.at 6 _ rfl; have f6 := hx13.frozen 6; have HX13 := Lib.hid hx13; have HO13 : Hid (OwnR lyL 46 w13 w12.heap.size (.slice A8 y.n c8) Y) := Lib.hid ho13.out; have HB13 := Lib.hid hb13; clear ho13 hg13 hn13 hb13 hx13))
    clear hw12 hs11
    have hX14 : Wh 42 (w13.setCell ⟨s11, 6, none⟩ (.slice A8 y.n c8)) s11 (etyC (y.at A8 c8)) := HX13.out.set 6 _
    have hO14 : OwnR lyL 46 (w13.setCell ⟨s11, 6, none⟩ (.slice A8 y.n c8)) w12.heap.size (.slice A8 y.n c8) Y := HO13.out.blk fun g hg => Below.heap_setCell w13 ⟨s11, 6, none⟩ _ g (by have := (HO13.out.lt hg).1; have := HX12.out.lt; show g ≠ s11; omega)
    have hB14 : Below w11.heap.size w11 (w13.setCell ⟨s11, 6, none⟩ (.slice A8 y.n c8)) := Below.setCell (p := ⟨s11, 6, none⟩) (HB12.out.trans (HB13.out.mono HB12.out.size)) (Nat.le_of_eq HS11.out) _
    have hS12 : w12.heap.size ≤ (w13.setCell ⟨s11, 6, none⟩ (.slice A8 y.n c8)).heap.size := by rw [World.size_setCell]; exact HB13.out.size
    clear d6 f6 c6 HX13 HO13 HB13 HR12 HE12
    generalize w13.setCell ⟨s11, 6, none⟩ (.slice A8 y.n c8) = w14 at *
    obtain ⟨s12, hs12⟩ : ∃ s, w12.heap.size = s := ⟨_, rfl⟩
    rw [hs12] at hO14 hS12
    have HS12 : Hid (s11 < s12 ∧ w11.heap.size ≤ s12) := Lib.hid ⟨by rw [← hs12]; exact HX12.out.lt, by rw [← hs12]; exact HB12.out.size⟩
    have HX14 := Lib.hid hX14
    have HO14 := Lib.hid hO14
    have HB14 := Lib.hid hB14
    have HS14 := Lib.hid hS12
    have HB914 : Hid (Below W9.heap.size W9 w14) := Lib.hid (HB911.out.trans (hB14.mono HB911.out.size))
    have HEK : Hid (EtyK w14 (y.at A8 c8) Y) := Lib.hid (copy_im (M := fun _ => False) hO14 HYK.out.ln HYK.out.ok (fun k hk => hk.elim) w14 (Only.of (Below.refl _ _)))
    have HL14 : Hid ((Instr.loadAt 42 (.pointer (some ⟨s11, 0, none⟩))).run Tryz.prog w14 = .ok (etyV (y.at A8 c8)) w14) := Lib.hid (by rw [etyV_is]; exact hX14.rg.load 0 42 (etyC (y.at A8 c8)) rfl _ Tryz.underlying42 rfl (by kernel_rfl))
    have HNB : Hid (∀ k, (Value.slice A8 y.n c8).ownBlock = some k → W9.heap.size ≤ k ∧ k < w14.heap.size) := Lib.hid (fun k hk => ⟨by have h1 := (HO14.out.lt hk).1; have h2 := HS12.out.2; have h3 := HB911.out.size; omega, (HO14.out.lt hk).2⟩)
    obtain ⟨E, hE⟩ : ∃ E, postE (rchkN (shpB (grpR g L G) g y Y) (acB (G.getD y.ent.toNat ent0).L Y) (rtlN g y Y)) (Os.map pe) (pe (y, Y)) = E := ⟨_, rfl⟩
    have HE0 := Lib.hid hE
    have HEP : Hid (postE (chkN j.g (y.at A8 c8) Y j.L j.G) j.Es (pe (y.at A8 c8, Y)) = E) := Lib.hid (by rw [chk_bare HPS.out.bd HVG.out HKC.out.lg (y.at A8 c8) Y HYK.out.ln, HPS.out.es]; exact hE)
    have HQP : Hid (Calls Tryz.prog 9 #[.pointer (some ⟨jb, 0, none⟩), etyV (y.at A8 c8)] w14 fun e w' => e = .returned (.int .i64 E) ∧ PostQ E M w3.heap.size j (y.at A8 c8) Y w14 w') := Lib.hid (by
     have h9 := jpost_any (B := w3.heap.size) j (y.at A8 c8) Y w14 (HPS.out.jk.up HB914.out) HEK.out HY1.out (HQ.out _ HYM.out).2.2.id (HQ.out _ HYM.out).2.2.of_ (Nat.le_trans HB3W.out.size HB914.out.size) (by have := HJN.out; omega) (fun k hk => Nat.lt_of_lt_of_le (HPS.out.mw k hk).2 HB914.out.size)
     rw [HEP.out, HPS.out.jb] at h9
     exact h9)
    clear hX14 hO14 hB14 hS12 hs12 hE HX12 HB12
    have HMA : True := trivial
    go_upto_region 15 with (first
     | (clear HMA; refine wpList_load_is rfl 42 _ rfl (.pointer (some ⟨s11, 0, none⟩)) rfl (etyV (y.at A8 c8)) HL14.out ?_)
     | (go_at_call 9; refine HQP.out.mono ?_; rintro e w15 ⟨rfl, hq⟩; obtain ⟨hO15, M3, j3, hj3b, hj3e, hM3, hJ3⟩ := post_jk HPS.out HB914.out HNB.out HEP.out hq; have HO15 := Lib.hid hO15; have HJ3B := Lib.hid hj3b; have HJ3E := Lib.hid hj3e; have HJ3 := Lib.hid hJ3; clear hO15 hj3b hj3e hM3 hJ3 hq))
    go_wp2_with fail
    have HMW : Hid (∀ k, W9.heap.size ≤ k → ¬ M k) := Lib.hid (fun k h1 h2 => by have := (HPS.out.mw k h2).2; omega)
    have HX15 : Hid (Wh 42 w15 s11 (etyC (y.at A8 c8))) := Lib.hid (HX14.out.only HO15.out (HMW.out s11 (by rw [← HS11.out]; exact HB911.out.size)))
    have HSX : Hid (∀ k, (Value.slice A8 y.n c8).ownBlock = some k → s12 ≤ k) := Lib.hid (fun k hk => (HO14.out.lt hk).1)
    have HSL0 : Hid (∃ L' : List Lnk, L'.length = y.n ∧ OwnR lyL 46 w15 s12 (.slice A8 y.n c8) L') := Lib.hid ⟨Y, HYK.out.ln, HO14.out.blk fun g hg => HO15.out.blk g (HO14.out.lt hg).2 (HMW.out g (by have := (HO14.out.lt hg).1; have := HS12.out.2; have := HB911.out.size; omega))⟩
    have HON0 : Hid (Only (fun k => (Value.slice A8 y.n c8).ownBlock = some k) w15 w15) := Lib.hid (Only.of (Below.refl _ _))
    clear HQP HL14 HEK HX14
    go_loopg [14] y.n (fun kx s14 wr => ∃ k : Nat, s14 = .int .i64 k ∧ k ≤ y.n ∧ y.n - k ≤ kx ∧ Hid (Only (fun k => (Value.slice A8 y.n c8).ownBlock = some k) w15 wr) ∧ Hid (∃ L' : List Lnk, L'.length = y.n ∧ OwnR lyL 46 wr s12 (.slice A8 y.n c8) L'))
    case atStart => exact ⟨0, rfl, by omega, by omega, HON0, HSL0⟩
    case round =>
     clear HON0 HSL0
     obtain ⟨k, rfl, hk, hkx, HOn, HSL⟩ := hrel
     have hY1 := HY1.out
     have HXR : Hid (Wh 42 wr s11 (etyC (y.at A8 c8))) := Lib.hid (HX15.out.only HOn.out (fun h => by have := HSX.out _ h; have := HS12.out.1; omega))
     have c6 := HXR.out.at 6 (.slice A8 y.n c8) rfl
     by_cases hlt : k < y.n
     ·have hltz : (k : Int) < (y.n : Int) := by omega
      obtain ⟨L', hl', ho'⟩ := HSL.out
      obtain ⟨gb, hA8, hg1, hg2, ⟨z, hz⟩, hfz⟩ := own_cell ho' hlt hl'
      rw [hA8] at c6
      have HA8 := Lib.hid hA8
      have HOW := Lib.hid ho'
      have HL' := Lib.hid hl'
      clear ho' hl' hA8
      go_wp2_with fail
      go_roundg (y.n - (k + 1))
      case measure => omega
      case rel => exact ⟨k + 1, by go_num, by omega, by omega, Lib.hid (set_only HOn.out (by rw [HA8.out]; rfl)), Lib.hid (by obtain ⟨L2, h1, h2⟩ := own_seti HOW.out gb (k * 3 + 1) _; exact ⟨L2, h1.trans HL'.out, h2⟩)⟩
     ·have hltz : ¬ (k : Int) < (y.n : Int) := by omega
      obtain ⟨W16, rfl⟩ : ∃ W, W = wr := ⟨_, rfl⟩
      have HOL := Lib.hid (show Os.length ≤ 60 by have := HPS.out.ln; have := HPL9.out; omega)
      have HJ16 : Hid (JK M3 w3.heap.size W16 j3) := Lib.hid (HJ3.out W16 (HOn.out.wide fun k _ h => .inl h))
      have HJ3N : Hid (j3.n ≤ 61) := Lib.hid (by have h1 := HJ16.out.len; rw [HJ3E.out, List.length_map] at h1; have := HOL.out; split at h1 <;> (try rw [List.length_append] at h1) <;> (try simp at h1) <;> omega)
      have HEN16 : Hid (Calls Tryz.prog 10 #[.pointer (some ⟨jb, 0, none⟩)] W16 fun e w' => CopQ W16.heap.size j3.Es e w' ∧ Below W16.heap.size W16 w') := Lib.hid (by have h9 := jents_any j3 W16 HJ16.out (by have := HJ3N.out; omega); rw [HJ3B.out] at h9; exact h9)
      clear hk hkx HSL
      go_wp2_with (go_at_call 10; refine HEN16.out.mono ?_; rintro e w17 ⟨⟨v7, Zs0, rfl, hc7, he7⟩, hb17⟩; obtain ⟨A7, c7, e7, -, -⟩ := hc7.row.reads; obtain ⟨n7, hn7⟩ : ∃ n7, (Zs0.map (·.1)).length = n7 := ⟨_, rfl⟩; rw [hn7] at e7; subst e7; obtain ⟨Zs, hZs⟩ : ∃ Zs, Zs0.map (·.1) = Zs := ⟨_, rfl⟩; have HZL : Hid (n7 ≤ 61) := Lib.hid (by rw [← hn7]; exact en_len (he7.trans HJ3E.out) HOL.out); have HZN : Hid (∀ e ∈ Zs, e.n ≤ 1000) := Lib.hid (by rw [← hZs]; exact en_small hc7 (he7.trans HJ3E.out) (fun p hp => by rw [(HOS.out _ (Below.refl _ _) p hp).ln]; exact HON.out p hp) (by rw [HYK.out.ln]; exact HY1.out)); have HC17 : Hid (CpW W16.heap.size (.slice A7 n7 c7) Zs w17) := Lib.hid (by rw [← hZs]; exact CpW.of hc7); have HZ7 : Hid (Zs.length = n7) := Lib.hid (by rw [← hZs]; exact hn7); have HB17 := Lib.hid hb17; clear hc7 he7 hb17 hn7 hZs)
      have HB17R : Hid (Below W16.heap.size w17 w17) := Lib.hid (Below.refl _ _)
      clear c6
      go_loopg [16] n7 (fun kx s16 wr => ∃ i : Nat, s16 = .int .i64 i ∧ i ≤ n7 ∧ n7 - i ≤ kx ∧ Hid (CpW W16.heap.size (.slice A7 n7 c7) Zs wr) ∧ Hid (Below W16.heap.size w17 wr))
      case atStart => exact ⟨0, rfl, by omega, by omega, HC17, HB17R⟩
      case round =>
       clear HC17 HB17R
       obtain ⟨i, rfl, hi7, hix, HC, HB⟩ := hrel
       have hz7 := HZL.out
       by_cases hlti : i < n7
       ·have hltiz : (i : Int) < (n7 : Int) := by omega
        obtain ⟨e, he⟩ : ∃ e, Zs[i]? = some e := ⟨_, List.getElem?_eq_getElem (by rw [HZ7.out]; exact hlti)⟩
        have hrow : RowAt lyX wr A7 Zs := by
         obtain ⟨A', c', e1, hr, -⟩ := HC.out.row.reads
         injection e1 with e1 _ _
         rw [e1]
         exact hr
        obtain ⟨bb7, off7, hA7, -, -⟩ := hrow.at he
        subst hA7
        have HEM := Lib.hid (List.mem_of_getElem? he)
        have hen := HZN.out e HEM.out
        have HC6 : Hid (∀ W, CpW W16.heap.size (.slice (some ⟨bb7, off7, none⟩) n7 c7) Zs W → W.cell? ⟨bb7, off7 + i * 7 + 6, none⟩ = some (.slice e.A e.n e.c)) := Lib.hid (fun W hC => by
         obtain ⟨A', c', e1, hr, -⟩ := hC.row.reads
         injection e1 with e1 _ _
         subst e1
         obtain ⟨b1_, o1_, e2, -, hrg⟩ := hr.at he
         injection e2 with e2
         injection e2 with e3 e4 _
         subst e3 e4
         exact hrg 6 _ rfl)
        clear hrow he
        go_wp2_with fail
        go_loopg [17] e.n (fun kx s17 wr => ∃ q : Nat, s17 = .int .i64 q ∧ q ≤ e.n ∧ e.n - q ≤ kx ∧ Hid (CpW W16.heap.size (.slice (some ⟨bb7, off7, none⟩) n7 c7) Zs wr) ∧ Hid (Below W16.heap.size w17 wr))
        case atStart => exact ⟨0, rfl, by omega, by omega, HC, HB⟩
        case round =>
         clear HC HB
         obtain ⟨q, rfl, hq, hqx, HC, HB⟩ := hrel
         have c6 := HC6.out _ HC.out
         by_cases hltq : q < e.n
         ·have hltqz : (q : Int) < (e.n : Int) := by omega
          obtain ⟨L', hl', ho'⟩ := HC.out.lns e HEM.out
          obtain ⟨gb, hA, hg1, hg2, ⟨z, hz⟩, hfz⟩ := own_cell ho' hltq hl'
          rw [hA] at c6
          have HA9 := Lib.hid hA
          have HG1 := Lib.hid hg1
          clear ho' hl' hA hg1
          go_wp2_with fail
          go_roundg (e.n - (q + 1))
          case measure => omega
          case rel => exact ⟨q + 1, by go_num, by omega, by omega, Lib.hid (HC.out.seti HEM.out HA9.out (q * 3 + 1) _), Lib.hid (Below.setCell (p := ⟨gb, q * 3 + 1, none⟩) HB.out HG1.out _)⟩
         ·have hltqz : ¬ (q : Int) < (e.n : Int) := by omega
          go_wp2_with fail
          go_roundg (n7 - (i + 1))
          case measure => omega
          case rel => exact ⟨i + 1, by go_num, by omega, by omega, HC, HB⟩
       ·have hltiz : ¬ (i : Int) < (n7 : Int) := by omega
        obtain ⟨W27, rfl⟩ : ∃ W, W = wr := ⟨_, rfl⟩
        clear hi7 hix hlti
        have HKZ : Hid ((nm : Int) < (n : Int)) := Lib.hid hkz
        have HBE : Hid (Below W16.heap.size W16 W27) := Lib.hid (HB17.out.trans HB.out)
        have HO27 : Hid (∀ W, Below W27.heap.size W27 W → Only (fun k => (Value.slice A8 y.n c8).ownBlock = some k) w15 W) := Lib.hid (fun W h => HOn.out.trans (Only.of (HBE.out.trans (h.mono HBE.out.size))))
        have HW9W : Hid (∀ W, Below W27.heap.size W27 W → Only (SgS M W9.heap.size) W9 W) := Lib.hid (fun W h => ((Only.of HB914.out).trans (HO15.out.wide fun k _ hk => .inl hk)).trans ((HO27.out W h).wide fun k _ hk => .inr (HNB.out k hk).1))
        have HW2 : Hid (∀ W, Below W27.heap.size W27 W → Below w2.heap.size w2 W) := Lib.hid (fun W h => HLW.out W (HW9W.out W h))
        have HSGW : Hid (∀ W, Below W27.heap.size W27 W → SG (ClM p A6 j.n c6 b1 b2) W9.heap.size (j.clo p A6 c6 b1 b2) Os p A5 Ps.length W) := Lib.hid (fun W h => HSG.out W (HW9W.out W h) (fun k hk => by
         obtain ⟨h1, h2⟩ := HCT.out k hk
         have h3 := HB11.out.size
         have h4 := HB14.out.size
         have h5 := HO15.out.size
         exact (((HO27.out W h).blk k (by omega) (fun h9 => by have := HSX.out k h9; have := HS12.out.2; omega)).trans (HO15.out.blk k (by omega) (HMW.out k h1))).trans ((HB14.out.block k (by omega)).trans (HB11.out.block k h2))))
        have HJW : Hid (∀ W, Below W27.heap.size W27 W → JK M3 w3.heap.size W j3) := Lib.hid (fun W h => HJ3.out W ((HO27.out W h).wide fun k _ h => .inl h))
        obtain ⟨EsO, hEsO⟩ : ∃ EsO, Os.map (·.1) = EsO := ⟨_, rfl⟩
        have HEO := Lib.hid hEsO
        have HEOL : Hid (EsO.length = Os.length) := Lib.hid (by rw [← hEsO, List.length_map])
        have HRE : Hid (∀ W, Below W27.heap.size W27 W → RowAt lyX W A5 EsO) := Lib.hid (fun W h => by rw [← HEO.out]; exact (HSGW.out W h).rw_)
        have HOS9 : Hid (∀ p ∈ Os, p.2.length ≤ 1000) := Lib.hid (fun p hp => by rw [(HOS.out _ (Below.refl _ _) p hp).ln]; exact HON.out p hp)
        have HRPP : Hid (∀ W, Below W27.heap.size W27 W → Calls Tryz.prog 11 #[GV, .slice A5 Os.length c5, etyV y] W fun e w' => e = .returned (.int .i64 E) ∧ Below W.heap.size W w') := Lib.hid (fun W hb => by
         have hb2 := HW2.out W hb
         have h9 := r12post_any g L G A5 c5 Os y Y W (HKC.out.up hb2) HFI.out.1 HWW.out (HSGW.out W hb).rw_ (HOS.out W hb2) HOS9.out (by have := HOL.out; omega) ((HEC.out.up hb2) _ HYM.out) HY1.out (HQ.out _ HYM.out).2.1
         rw [HE0.out, ← HGV.out] at h9
         exact h9)
        have HRR : Hid (∀ W, Below w2.heap.size w2 W → (Instr.loadAt 32 (.pointer (some ⟨s0 + 1, 0, none⟩))).run Tryz.prog W = .ok (.agg #[.int .i64 a, .int .i64 b]) W) := Lib.hid (fun W h => (HAB.out.up h).rg.load 0 32 [.int .i64 a, .int .i64 b] rfl _ Tryz.underlying32 rfl (by kernel_rfl))
        clear hEsO hkz
        by_cases h0 : E = 0
        ·have e0 : (E == 0) = true := by simp [h0]
         have HE3 : Hid (j3.Es = (Os ++ [(y, Y)]).map pe) := Lib.hid (by rw [HJ3E.out, if_pos h0])
         clear h0
         go_upto_region 29 with fail
         refine AK.region_facts (Rp := Below0) (Kp := KpJ) (cnFa bb off n c nm Os.length c5 A5 y) (cnJ W27 y EsO) [[], [], [121, 122], [], [], [124, 125], [126], [127], [123, 128], [129]] [2, 8, 9] [[], [123], [129], [18]] [3, 3, 3, 3, 3, 3, 3, 3, 3, 3] [0, 0, 0, 0, 0, 0, 0, 0, 0, 0] [] (fun u => by simp only [cnFa, AK.temps, List.map_cons, List.map_nil, fillL, List.setIfInBounds_toArray, List.set_cons_zero, List.set_cons_succ]; rfl) (by kernel_rfl) (by kernel_rfl) (fun _ _ h => h.1) (fun _ _ h => KpJ.of h) (cnJ.st W27 y EsO) (⟨dc_drew (Below.refl _ _), fun v h => by cases h⟩) ?_ ?_
         ·refine AK.sc (lim := 3) (lo := 0) rfl rfl rfl rfl ?_ ?_
          ·intro k_ u w_ hk_ hl_ hJ hF K hK
           clear hF
           go_simp
           exact hK.out _ _ (below_alloc_new _) ⟨_, rfl⟩ trivial
          refine AK.sc (lim := 3) (lo := 0) rfl rfl rfl rfl ?_ ?_
          ·intro k_ u w_ hk_ hl_ hJ hF K hK
           clear hF
           go_simp
           exact hK.out _ _ bR (rfl) trivial
          refine AK.ss rfl rfl ?_ ?_
          ·intro u w_ hJ hA_ hF K hK
           have h121 : ∃ b9, u 121 = .slice (some ⟨b9, 0, none⟩) 0 0 := AK.facts_get hF 121 (by simp)
           have h122 : u 122 = .slice A5 Os.length c5 := AK.facts_get hF 122 (by simp)
           clear hF
           obtain ⟨b9, h121⟩ := h121
           simp only [h121, h122] at hK ⊢
           clear h121 h122
           rcases Nat.eq_zero_or_pos Os.length with hz_ | hz_
           ·rw [if_pos (by rfl)]
            refine wp_appJ_nil (.tmp 121) (.tmp 122) 30 rfl i0 Tryz.underlying30 hi b9 0 rfl A5 Os.length c5 rfl hz_ ?_
            exact hK.out _ _ ⟨hJ.1, fun v9 hv9 => by cases hv9; exact .inr ⟨by rw [HEOL.out]; exact hz_, _, rfl⟩⟩ (KpJ.of (Below.refl _ _)) trivial
           ·rw [if_pos (by rfl)]
            refine wp_appJ_grow (R := lyX) (.tmp 121) (.tmp 122) 30 rfl i0 _ 80 Tryz.underlying30 hi hz1 hz2 hz3 (by omega) rfl b9 0 0 [] rfl RowAt.nil A5 Os.length c5 EsO HEOL.out rfl (HRE.out _ hJ.1) hz_ (by simp; exact hz_) (by have := HOL.out; simp; omega) ?_
            intro v' w' ho' hg'
            have hb' : Below w_.heap.size w_ w' := (Below.refl _ _).grown hg'.out (Nat.le_refl _) (fun k hk => by cases hk)
            exact hK.out _ _ ⟨hJ.1.trans (hb'.mono hJ.1.size), fun v9 hv9 => by cases hv9; exact .inl ⟨by rw [HEOL.out]; exact hz_, ho'.out.low hJ.1.size⟩⟩ (KpJ.of hb') trivial
          refine AK.sc (lim := 3) (lo := 0) rfl rfl rfl rfl ?_ ?_
          ·intro k_ u w_ hk_ hl_ hJ hF K hK
           clear hF
           go_simp
           exact hK.out _ _ bR (rfl) trivial
          refine AK.sc (lim := 3) (lo := 0) rfl rfl rfl rfl ?_ ?_
          ·intro k_ u w_ hk_ hl_ hJ hF K hK
           clear hF
           go_simp
           exact hK.out _ _ bR (rfl) trivial
          refine AK.sc (lim := 3) (lo := 0) rfl rfl rfl rfl ?_ ?_
          ·intro k_ u w_ hk_ hl_ hJ hF K hK
           have h124 : u 124 = .slice (some ⟨bb, off, none⟩) n c := AK.facts_get hF 124 (by simp)
           have h125 : u 125 = .int .i64 (nm : Int) := AK.facts_get hF 125 (by simp)
           clear hF
           simp only [h124, h125] at hK ⊢
           clear h124 h125
           have hz_ := HKZ.out
           go_simp
           exact hK.out _ _ bR (rfl) trivial
          refine AK.sc (lim := 3) (lo := 0) rfl rfl rfl rfl ?_ ?_
          ·intro k_ u w_ hk_ hl_ hJ hF K hK
           have h126 : u 126 = .pointer (some ⟨bb, off + nm * 7, none⟩) := AK.facts_get hF 126 (by simp)
           clear hF
           simp only [h126] at hK ⊢
           clear h126
           refine wp_load_is 42 _ rfl (.pointer (some ⟨bb, off + nm * 7, none⟩)) rfl (etyV y) (HLY.out _ (HW2.out _ hJ.1)) ?_
           exact hK.out _ _ bR rfl trivial
          refine AK.sc (lim := 3) (lo := 0) rfl rfl rfl rfl ?_ ?_
          ·intro k_ u w_ hk_ hl_ hJ hF K hK
           have h127 : u 127 = etyV y := AK.facts_get hF 127 (by simp)
           clear hF
           simp only [h127] at hK ⊢
           clear h127
           go_simp
           exact hK.out _ _ (below_alloc_new _) ⟨_, rfl, Wh.new w_ 42 (etyC y)⟩ trivial
          refine AK.ss rfl rfl ?_ ?_
          ·intro u w_ hJ hA_ hF K hK
           have h128 : cnP28 y (u 128) w_ := AK.facts_get hF 128 (by simp)
           clear hF
           obtain ⟨b_, h128, hw_⟩ := h128
           have hO9 := hJ.2 _ rfl
           simp only [h128] at hK ⊢
           clear h128
           rcases hO9 with ⟨hz_, hO9⟩ | ⟨hz_, b8, hv8⟩
           ·rw [if_pos (by rfl)]
            refine wp_appJ_ety (.tmp 123) (.tmp 128) 30 rfl i0 _ 80 Tryz.underlying30 hi hz1 hz2 hz3 (by omega) rfl rfl hO9 hz_ b_ y rfl hw_ (by rw [HEOL.out]; have := HOL.out; omega) hJ.1.size ?_
            intro v' w' ho' hk' hb'
            exact hK.out _ _ ⟨hJ.1.trans hb', fun v9 hv9 => by cases hv9; exact ho'⟩ hk' trivial
           ·rw [if_pos (by rfl)]
            have hev : EsO = [] := List.eq_nil_of_length_eq_zero hz_
            refine wp_appJ_grow (R := lyX) (.tmp 123) (.tmp 128) 30 rfl i0 _ 80 Tryz.underlying30 hi hz1 hz2 hz3 (by omega) rfl b8 0 0 [] (by exact hv8) RowAt.nil (some ⟨b_, 0, none⟩) 1 1 [y] rfl rfl (row_one hw_) (by decide) (by simp) (by simp) ?_
            intro v' w' ho' hg'
            have hb' : Below w_.heap.size w_ w' := (Below.refl _ _).grown hg'.out (Nat.le_refl _) (fun k hk => by cases hk)
            exact hK.out _ _ ⟨hJ.1.trans (hb'.mono hJ.1.size), fun v9 hv9 => by cases hv9; show OwnR lyX 42 w' W27.heap.size _ (EsO ++ [y]); rw [hev]; exact ho'.out.low hJ.1.size⟩ (KpJ.of hb') trivial
          refine AK.ss rfl rfl ?_ ?_
          ·intro u w_ hJ hA_ hF K hK
           clear hF
           have hO9 := hJ.2 _ rfl
           go_simp
           exact hK.out _ _ ⟨hJ.1, fun v9 hv9 => by cases hv9; exact hO9⟩ (KpJ.of (Below.refl _ _)) trivial
          exact AK.StepsOk.nil
         ·intro u' W29 hJ29 hF
          clear hF
          obtain ⟨hb29, hl29⟩ := hJ29
          have ho_ := hl29 _ rfl
          obtain ⟨A2, c2, e2, hr2, -⟩ := (show OwnR lyX 42 W29 W27.heap.size _ (EsO ++ [y]) from ho_).reads
          have hz2_ : (EsO ++ [y]).length = (Os ++ [(y, Y)]).length := by rw [List.length_append, List.length_append, HEOL.out]; rfl
          rw [hz2_] at e2
          simp only [e2]
          obtain ⟨W28, rfl⟩ : ∃ W, W = W29 := ⟨_, rfl⟩
          have HR2 : Hid (RowAt lyX W28 A2 ((Os ++ [(y, Y)]).map (·.1))) := Lib.hid (by rw [List.map_append, HEO.out]; exact hr2)
          have HB28 := Lib.hid hb29
          have HK2 : Hid (∀ W, Below w2.heap.size w2 W → EtysK W (Os ++ [(y, Y)])) := Lib.hid (fun W hb q hq => by
           rcases List.mem_append.1 hq with h8 | h8
           ·exact HOS.out W hb q h8
           ·rw [List.mem_singleton] at h8
            subst h8
            exact (HEC.out.up hb) _ HYM.out)
          have HN2 : Hid (∀ q ∈ Os ++ [(y, Y)], q.1.n ≤ 1000) := Lib.hid (fun q hq => by
           rcases List.mem_append.1 hq with h8 | h8
           ·exact HON.out q h8
           ·rw [List.mem_singleton] at h8
            subst h8
            exact HY1.out)
          have HL2 : Hid ((Os ++ [(y, Y)]).length ≤ 61) := Lib.hid (by rw [List.length_append]; exact Nat.succ_le_succ HOL.out)
          obtain ⟨Os2, hOs2⟩ : ∃ O, Os ++ [(y, Y)] = O := ⟨_, rfl⟩
          rw [hOs2] at HR2 HK2 HN2 HL2 HE3
          simp only [hOs2]
          clear hb29 hl29 ho_ hr2 hz2_ e2 hOs2
          have HX28 : Hid (∀ W, Below W28.heap.size W28 W → Below w2.heap.size w2 W) := Lib.hid (fun W h => HW2.out W (HB28.out.trans (h.mono HB28.out.size)))
          have HSA : Hid (∀ W, Below W28.heap.size W28 W → Calls Tryz.prog 8 #[.pointer (some ⟨p, 0, none⟩), .slice A5 Os.length c5, .agg #[.int .i64 a, .int .i64 b]] W fun e w' => e = .returned (.bool true) ∧ Below W.heap.size W w') := Lib.hid (fun W h => lsameG_any A5 c5 a b W (HSGW.out W (HB28.out.trans (h.mono HB28.out.size))) (HOS.out _ (HX28.out W h)) HON.out (by have := HPL9.out; omega) HA.out)
          have HSJ : Hid (∀ W, Below W28.heap.size W28 W → Calls Tryz.prog 8 #[.pointer (some ⟨jb, 0, none⟩), .slice A2 Os2.length c2, .agg #[.int .i64 a, .int .i64 b]] W fun e w' => e = .returned (.bool true) ∧ Below W.heap.size W w') := Lib.hid (fun W h => lsameG_any (i := 61) A2 c2 a b W ⟨HJW.out W (HB28.out.trans (h.mono HB28.out.size)), HJ3B.out, HE3.out, HR2.out.up h, HL2.out⟩ (HK2.out _ (HX28.out W h)) HN2.out (by omega) HA.out)
          obtain ⟨YV, hYV⟩ : ∃ YV, etyV y = YV := ⟨_, rfl⟩
          have HLYV := HLY
          rw [hYV] at HLYV HRPP
          have HRP : Hid (∀ W, Below W28.heap.size W28 W → Calls Tryz.prog 11 #[GV, .slice A5 Os.length c5, YV] W fun e w' => e = .returned (.int .i64 E) ∧ Below W.heap.size W w') := Lib.hid (fun W h => HRPP.out W (HB28.out.trans (h.mono HB28.out.size)))
          have HLR : Hid (∀ W, Below W28.heap.size W28 W → (Instr.loadAt 32 (.pointer (some ⟨s0 + 1, 0, none⟩))).run Tryz.prog W = .ok (.agg #[.int .i64 a, .int .i64 b]) W) := Lib.hid (fun W h => HRR.out W (HX28.out W h))
          obtain ⟨o2, ho2⟩ : ∃ o2, Os2.length = o2 := ⟨_, rfl⟩
          rw [ho2] at HSJ
          try simp only [ho2]
          clear hYV ho2
          go_upto_region 30 with fail
          refine AK.region_facts (Rp := Below0) (Kp := Below0) (cnFb bb off n c nm s0 jb p Os.length c5 o2 c2 A5 A2 GV YV a b E) (fun _ _ W => Below W28.heap.size W28 W) [[], [], [], [130, 131, 132], [133], [134], [134], [134], [135, 136, 137, 134], [134, 138], [139], [140], [140], [140], [140], [140], [144, 145, 140], [146, 140], [142, 143, 147, 140], [141, 148, 140], [140, 149], [150]] [] [[]] [0, 0, 0, 0, 0, 0, 0, 0, 0, 0, 0, 0, 0, 0, 0, 0, 0, 0, 0, 0, 0, 0] [0, 0, 0, 0, 0, 0, 0, 0, 0, 0, 0, 0, 0, 0, 0, 0, 0, 0, 0, 0, 0, 0] [] (fun u => by simp only [cnFb, AK.temps, List.map_cons, List.map_nil, fillL, List.setIfInBounds_toArray, List.set_cons_zero, List.set_cons_succ]; rfl) (by kernel_rfl) (by kernel_rfl) (fun _ _ h => h.size) (fun _ _ h => h) (fun _ _ _ _ hb h => h.trans (hb.mono h.size)) (dc_drew (Below.refl _ _)) ?_ ?_
          ·refine AK.sc (lim := 0) (lo := 0) rfl rfl rfl rfl ?_ ?_
           ·intro k_ u w_ hk_ hl_ hJ hF K hK
            clear hF
            go_simp
            exact hK.out _ _ bR (rfl) trivial
           refine AK.sc (lim := 0) (lo := 0) rfl rfl rfl rfl ?_ ?_
           ·intro k_ u w_ hk_ hl_ hJ hF K hK
            clear hF
            go_simp
            exact hK.out _ _ bR (rfl) trivial
           refine AK.sc (lim := 0) (lo := 0) rfl rfl rfl rfl ?_ ?_
           ·intro k_ u w_ hk_ hl_ hJ hF K hK
            clear hF
            refine wp_load_is 32 _ rfl (.pointer (some ⟨s0 + 1, 0, none⟩)) rfl (.agg #[.int .i64 a, .int .i64 b]) (HLR.out _ hJ) ?_
            exact hK.out _ _ bR rfl trivial
           refine AK.sc (lim := 0) (lo := 0) rfl rfl rfl rfl ?_ ?_
           ·intro k_ u w_ hk_ hl_ hJ hF K hK
            have h130 : u 130 = .pointer (some ⟨p, 0, none⟩) := AK.facts_get hF 130 (by simp)
            have h131 : u 131 = .slice A5 Os.length c5 := AK.facts_get hF 131 (by simp)
            have h132 : u 132 = .agg #[.int .i64 a, .int .i64 b] := AK.facts_get hF 132 (by simp)
            clear hF
            simp only [h130, h131, h132] at hK ⊢
            clear h130 h131 h132
            go_simp
            refine (HSA.out _ hJ).mono ?_
            rintro r w6 ⟨rfl, hb6⟩
            exact hK.out _ _ hb6 rfl trivial
           refine AK.sc (lim := 0) (lo := 0) rfl rfl rfl rfl ?_ ?_
           ·intro k_ u w_ hk_ hl_ hJ hF K hK
            have h133 : u 133 = .bool true := AK.facts_get hF 133 (by simp)
            clear hF
            simp only [h133] at hK ⊢
            clear h133
            go_simp
            exact hK.out _ _ bR (rfl) trivial
           refine AK.sc (lim := 0) (lo := 0) rfl rfl rfl rfl ?_ ?_
           ·intro k_ u w_ hk_ hl_ hJ hF K hK
            have h134 : u 134 = .bool true := AK.facts_get hF 134 (by simp)
            clear hF
            simp only [h134] at hK ⊢
            clear h134
            go_simp
            exact hK.out _ _ bR (rfl) trivial
           refine AK.sc (lim := 0) (lo := 0) rfl rfl rfl rfl ?_ ?_
           ·intro k_ u w_ hk_ hl_ hJ hF K hK
            have h134 : u 134 = .bool true := AK.facts_get hF 134 (by simp)
            clear hF
            simp only [h134] at hK ⊢
            clear h134
            go_simp
            exact hK.out _ _ bR (rfl) trivial
           refine AK.sc (lim := 0) (lo := 0) rfl rfl rfl rfl ?_ ?_
           ·intro k_ u w_ hk_ hl_ hJ hF K hK
            have h134 : u 134 = .bool true := AK.facts_get hF 134 (by simp)
            clear hF
            simp only [h134] at hK ⊢
            clear h134
            refine wp_load_is 32 _ rfl (.pointer (some ⟨s0 + 1, 0, none⟩)) rfl (.agg #[.int .i64 a, .int .i64 b]) (HLR.out _ hJ) ?_
            exact hK.out _ _ bR rfl trivial
           refine AK.sc (lim := 0) (lo := 0) rfl rfl rfl rfl ?_ ?_
           ·intro k_ u w_ hk_ hl_ hJ hF K hK
            have h135 : u 135 = .pointer (some ⟨jb, 0, none⟩) := AK.facts_get hF 135 (by simp)
            have h136 : u 136 = .slice A2 o2 c2 := AK.facts_get hF 136 (by simp)
            have h137 : u 137 = .agg #[.int .i64 a, .int .i64 b] := AK.facts_get hF 137 (by simp)
            have h134 : u 134 = .bool true := AK.facts_get hF 134 (by simp)
            clear hF
            simp only [h135, h136, h137, h134] at hK ⊢
            clear h135 h136 h137 h134
            go_simp
            refine (HSJ.out _ hJ).mono ?_
            rintro r w6 ⟨rfl, hb6⟩
            exact hK.out _ _ hb6 rfl trivial
           refine AK.sc (lim := 0) (lo := 0) rfl rfl rfl rfl ?_ ?_
           ·intro k_ u w_ hk_ hl_ hJ hF K hK
            have h134 : u 134 = .bool true := AK.facts_get hF 134 (by simp)
            have h138 : u 138 = .bool true := AK.facts_get hF 138 (by simp)
            clear hF
            simp only [h134, h138] at hK ⊢
            clear h134 h138
            go_simp
            exact hK.out _ _ bR (rfl) trivial
           refine AK.sc (lim := 0) (lo := 0) rfl rfl rfl rfl ?_ ?_
           ·intro k_ u w_ hk_ hl_ hJ hF K hK
            have h139 : u 139 = .bool true := AK.facts_get hF 139 (by simp)
            clear hF
            simp only [h139] at hK ⊢
            clear h139
            go_simp
            exact hK.out _ _ bR (rfl) trivial
           refine AK.sc (lim := 0) (lo := 0) rfl rfl rfl rfl ?_ ?_
           ·intro k_ u w_ hk_ hl_ hJ hF K hK
            have h140 : u 140 = .bool true := AK.facts_get hF 140 (by simp)
            clear hF
            simp only [h140] at hK ⊢
            clear h140
            go_simp
            exact hK.out _ _ bR (rfl) trivial
           refine AK.sc (lim := 0) (lo := 0) rfl rfl rfl rfl ?_ ?_
           ·intro k_ u w_ hk_ hl_ hJ hF K hK
            have h140 : u 140 = .bool true := AK.facts_get hF 140 (by simp)
            clear hF
            simp only [h140] at hK ⊢
            clear h140
            refine wp_load_is 29 _ rfl (.pointer (some ⟨s0, 0, none⟩)) rfl GV (HLG.out _ (HX28.out _ hJ)) ?_
            exact hK.out _ _ bR rfl trivial
           refine AK.sc (lim := 0) (lo := 0) rfl rfl rfl rfl ?_ ?_
           ·intro k_ u w_ hk_ hl_ hJ hF K hK
            have h140 : u 140 = .bool true := AK.facts_get hF 140 (by simp)
            clear hF
            simp only [h140] at hK ⊢
            clear h140
            go_simp
            exact hK.out _ _ bR (rfl) trivial
           refine AK.sc (lim := 0) (lo := 0) rfl rfl rfl rfl ?_ ?_
           ·intro k_ u w_ hk_ hl_ hJ hF K hK
            have h140 : u 140 = .bool true := AK.facts_get hF 140 (by simp)
            clear hF
            simp only [h140] at hK ⊢
            clear h140
            go_simp
            exact hK.out _ _ bR (rfl) trivial
           refine AK.sc (lim := 0) (lo := 0) rfl rfl rfl rfl ?_ ?_
           ·intro k_ u w_ hk_ hl_ hJ hF K hK
            have h140 : u 140 = .bool true := AK.facts_get hF 140 (by simp)
            clear hF
            simp only [h140] at hK ⊢
            clear h140
            go_simp
            exact hK.out _ _ bR (rfl) trivial
           refine AK.sc (lim := 0) (lo := 0) rfl rfl rfl rfl ?_ ?_
           ·intro k_ u w_ hk_ hl_ hJ hF K hK
            have h144 : u 144 = .slice (some ⟨bb, off, none⟩) n c := AK.facts_get hF 144 (by simp)
            have h145 : u 145 = .int .i64 (nm : Int) := AK.facts_get hF 145 (by simp)
            have h140 : u 140 = .bool true := AK.facts_get hF 140 (by simp)
            clear hF
            simp only [h144, h145, h140] at hK ⊢
            clear h144 h145 h140
            have hz_ := HKZ.out
            go_simp
            exact hK.out _ _ bR (rfl) trivial
           refine AK.sc (lim := 0) (lo := 0) rfl rfl rfl rfl ?_ ?_
           ·intro k_ u w_ hk_ hl_ hJ hF K hK
            have h146 : u 146 = .pointer (some ⟨bb, off + nm * 7, none⟩) := AK.facts_get hF 146 (by simp)
            have h140 : u 140 = .bool true := AK.facts_get hF 140 (by simp)
            clear hF
            simp only [h146, h140] at hK ⊢
            clear h146 h140
            refine wp_load_is 42 _ rfl (.pointer (some ⟨bb, off + nm * 7, none⟩)) rfl YV (HLYV.out _ (HX28.out _ hJ)) ?_
            exact hK.out _ _ bR rfl trivial
           refine AK.sc (lim := 0) (lo := 0) rfl rfl rfl rfl ?_ ?_
           ·intro k_ u w_ hk_ hl_ hJ hF K hK
            have h142 : u 142 = GV := AK.facts_get hF 142 (by simp)
            have h143 : u 143 = .slice A5 Os.length c5 := AK.facts_get hF 143 (by simp)
            have h147 : u 147 = YV := AK.facts_get hF 147 (by simp)
            have h140 : u 140 = .bool true := AK.facts_get hF 140 (by simp)
            clear hF
            simp only [h142, h143, h147, h140] at hK ⊢
            clear h142 h143 h147 h140
            go_simp
            refine (HRP.out _ hJ).mono ?_
            rintro r w6 ⟨rfl, hb6⟩
            exact hK.out _ _ hb6 rfl trivial
           refine AK.sc (lim := 0) (lo := 0) rfl rfl rfl rfl ?_ ?_
           ·intro k_ u w_ hk_ hl_ hJ hF K hK
            have h141 : u 141 = .int .i64 E := AK.facts_get hF 141 (by simp)
            have h148 : u 148 = .int .i64 E := AK.facts_get hF 148 (by simp)
            have h140 : u 140 = .bool true := AK.facts_get hF 140 (by simp)
            clear hF
            simp only [h141, h148, h140] at hK ⊢
            clear h141 h148 h140
            go_simp
            exact hK.out _ _ bR (rfl) trivial
           refine AK.sc (lim := 0) (lo := 0) rfl rfl rfl rfl ?_ ?_
           ·intro k_ u w_ hk_ hl_ hJ hF K hK
            have h140 : u 140 = .bool true := AK.facts_get hF 140 (by simp)
            have h149 : u 149 = .bool true := AK.facts_get hF 149 (by simp)
            clear hF
            simp only [h140, h149] at hK ⊢
            clear h140 h149
            go_simp
            exact hK.out _ _ bR (rfl) trivial
           refine AK.sc (lim := 0) (lo := 0) rfl rfl rfl rfl ?_ ?_
           ·intro k_ u w_ hk_ hl_ hJ hF K hK
            have h150 : u 150 = .bool true := AK.facts_get hF 150 (by simp)
            clear hF
            simp only [h150] at hK ⊢
            clear h150
            go_simp
            exact hK.out _ _ bR (rfl) trivial
           exact AK.StepsOk.nil
          ·intro u' W30 hJ30 hF
           have h6 : u' 6 = .bool true := AK.facts_get hF 6 (by simp [cnFb, AK.temps])
           clear hF
           simp only [h6]
           have HBC := Lib.hid (HX28.out _ hJ30)
           clear h6 hJ30
           go_wp2_with fail
           go_ret
           exact ⟨by first | rfl | simp, (by have h9 := HB2.out.trans (HBC.out.mono HB2.out.size); first | exact h9 | (rw [← HS0.out]; exact h9))⟩
        ·have e0 : (E == 0) = false := by simp [h0]
         obtain ⟨W28, rfl⟩ : ∃ W, W = W27 := ⟨_, rfl⟩
         have HB28 : Hid (Below W28.heap.size W28 W28) := Lib.hid (Below.refl _ _)
         have HE3 : Hid (j3.Es = Os.map pe) := Lib.hid (by rw [HJ3E.out, if_neg h0])
         have HR2 : Hid (RowAt lyX W28 A5 (Os.map (·.1))) := Lib.hid (by rw [HEO.out]; exact HRE.out _ (Below.refl _ _))
         have HK2 := HOS
         have HN2 := HON
         have HL2 : Hid (Os.length ≤ 61) := Lib.hid (Nat.le_succ_of_le HOL.out)
         clear h0
         have HX28 : Hid (∀ W, Below W28.heap.size W28 W → Below w2.heap.size w2 W) := Lib.hid (fun W h => HW2.out W (HB28.out.trans (h.mono HB28.out.size)))
         have HSA : Hid (∀ W, Below W28.heap.size W28 W → Calls Tryz.prog 8 #[.pointer (some ⟨p, 0, none⟩), .slice A5 Os.length c5, .agg #[.int .i64 a, .int .i64 b]] W fun e w' => e = .returned (.bool true) ∧ Below W.heap.size W w') := Lib.hid (fun W h => lsameG_any A5 c5 a b W (HSGW.out W (HB28.out.trans (h.mono HB28.out.size))) (HOS.out _ (HX28.out W h)) HON.out (by have := HPL9.out; omega) HA.out)
         have HSJ : Hid (∀ W, Below W28.heap.size W28 W → Calls Tryz.prog 8 #[.pointer (some ⟨jb, 0, none⟩), .slice A5 Os.length c5, .agg #[.int .i64 a, .int .i64 b]] W fun e w' => e = .returned (.bool true) ∧ Below W.heap.size W w') := Lib.hid (fun W h => lsameG_any (i := 61) A5 c5 a b W ⟨HJW.out W (HB28.out.trans (h.mono HB28.out.size)), HJ3B.out, HE3.out, HR2.out.up h, HL2.out⟩ (HK2.out _ (HX28.out W h)) HN2.out (by omega) HA.out)
         obtain ⟨YV, hYV⟩ : ∃ YV, etyV y = YV := ⟨_, rfl⟩
         have HLYV := HLY
         rw [hYV] at HLYV HRPP
         have HRP : Hid (∀ W, Below W28.heap.size W28 W → Calls Tryz.prog 11 #[GV, .slice A5 Os.length c5, YV] W fun e w' => e = .returned (.int .i64 E) ∧ Below W.heap.size W w') := Lib.hid (fun W h => HRPP.out W (HB28.out.trans (h.mono HB28.out.size)))
         have HLR : Hid (∀ W, Below W28.heap.size W28 W → (Instr.loadAt 32 (.pointer (some ⟨s0 + 1, 0, none⟩))).run Tryz.prog W = .ok (.agg #[.int .i64 a, .int .i64 b]) W) := Lib.hid (fun W h => HRR.out W (HX28.out W h))
         clear hYV
         go_upto_region 30 with fail
         refine AK.region_facts (Rp := Below0) (Kp := Below0) (cnFb bb off n c nm s0 jb p Os.length c5 Os.length c5 A5 A5 GV YV a b E) (fun _ _ W => Below W28.heap.size W28 W) [[], [], [], [130, 131, 132], [133], [134], [134], [134], [135, 136, 137, 134], [134, 138], [139], [140], [140], [140], [140], [140], [144, 145, 140], [146, 140], [142, 143, 147, 140], [141, 148, 140], [140, 149], [150]] [] [[]] [0, 0, 0, 0, 0, 0, 0, 0, 0, 0, 0, 0, 0, 0, 0, 0, 0, 0, 0, 0, 0, 0] [0, 0, 0, 0, 0, 0, 0, 0, 0, 0, 0, 0, 0, 0, 0, 0, 0, 0, 0, 0, 0, 0] [] (fun u => by simp only [cnFb, AK.temps, List.map_cons, List.map_nil, fillL, List.setIfInBounds_toArray, List.set_cons_zero, List.set_cons_succ]; rfl) (by kernel_rfl) (by kernel_rfl) (fun _ _ h => h.size) (fun _ _ h => h) (fun _ _ _ _ hb h => h.trans (hb.mono h.size)) (dc_drew (Below.refl _ _)) ?_ ?_
         ·refine AK.sc (lim := 0) (lo := 0) rfl rfl rfl rfl ?_ ?_
          ·intro k_ u w_ hk_ hl_ hJ hF K hK
           clear hF
           go_simp
           exact hK.out _ _ bR (rfl) trivial
          refine AK.sc (lim := 0) (lo := 0) rfl rfl rfl rfl ?_ ?_
          ·intro k_ u w_ hk_ hl_ hJ hF K hK
           clear hF
           go_simp
           exact hK.out _ _ bR (rfl) trivial
          refine AK.sc (lim := 0) (lo := 0) rfl rfl rfl rfl ?_ ?_
          ·intro k_ u w_ hk_ hl_ hJ hF K hK
           clear hF
           refine wp_load_is 32 _ rfl (.pointer (some ⟨s0 + 1, 0, none⟩)) rfl (.agg #[.int .i64 a, .int .i64 b]) (HLR.out _ hJ) ?_
           exact hK.out _ _ bR rfl trivial
          refine AK.sc (lim := 0) (lo := 0) rfl rfl rfl rfl ?_ ?_
          ·intro k_ u w_ hk_ hl_ hJ hF K hK
           have h130 : u 130 = .pointer (some ⟨p, 0, none⟩) := AK.facts_get hF 130 (by simp)
           have h131 : u 131 = .slice A5 Os.length c5 := AK.facts_get hF 131 (by simp)
           have h132 : u 132 = .agg #[.int .i64 a, .int .i64 b] := AK.facts_get hF 132 (by simp)
           clear hF
           simp only [h130, h131, h132] at hK ⊢
           clear h130 h131 h132
           go_simp
           refine (HSA.out _ hJ).mono ?_
           rintro r w6 ⟨rfl, hb6⟩
           exact hK.out _ _ hb6 rfl trivial
          refine AK.sc (lim := 0) (lo := 0) rfl rfl rfl rfl ?_ ?_
          ·intro k_ u w_ hk_ hl_ hJ hF K hK
           have h133 : u 133 = .bool true := AK.facts_get hF 133 (by simp)
           clear hF
           simp only [h133] at hK ⊢
           clear h133
           go_simp
           exact hK.out _ _ bR (rfl) trivial
          refine AK.sc (lim := 0) (lo := 0) rfl rfl rfl rfl ?_ ?_
          ·intro k_ u w_ hk_ hl_ hJ hF K hK
           have h134 : u 134 = .bool true := AK.facts_get hF 134 (by simp)
           clear hF
           simp only [h134] at hK ⊢
           clear h134
           go_simp
           exact hK.out _ _ bR (rfl) trivial
          refine AK.sc (lim := 0) (lo := 0) rfl rfl rfl rfl ?_ ?_
          ·intro k_ u w_ hk_ hl_ hJ hF K hK
           have h134 : u 134 = .bool true := AK.facts_get hF 134 (by simp)
           clear hF
           simp only [h134] at hK ⊢
           clear h134
           go_simp
           exact hK.out _ _ bR (rfl) trivial
          refine AK.sc (lim := 0) (lo := 0) rfl rfl rfl rfl ?_ ?_
          ·intro k_ u w_ hk_ hl_ hJ hF K hK
           have h134 : u 134 = .bool true := AK.facts_get hF 134 (by simp)
           clear hF
           simp only [h134] at hK ⊢
           clear h134
           refine wp_load_is 32 _ rfl (.pointer (some ⟨s0 + 1, 0, none⟩)) rfl (.agg #[.int .i64 a, .int .i64 b]) (HLR.out _ hJ) ?_
           exact hK.out _ _ bR rfl trivial
          refine AK.sc (lim := 0) (lo := 0) rfl rfl rfl rfl ?_ ?_
          ·intro k_ u w_ hk_ hl_ hJ hF K hK
           have h135 : u 135 = .pointer (some ⟨jb, 0, none⟩) := AK.facts_get hF 135 (by simp)
           have h136 : u 136 = .slice A5 Os.length c5 := AK.facts_get hF 136 (by simp)
           have h137 : u 137 = .agg #[.int .i64 a, .int .i64 b] := AK.facts_get hF 137 (by simp)
           have h134 : u 134 = .bool true := AK.facts_get hF 134 (by simp)
           clear hF
           simp only [h135, h136, h137, h134] at hK ⊢
           clear h135 h136 h137 h134
           go_simp
           refine (HSJ.out _ hJ).mono ?_
           rintro r w6 ⟨rfl, hb6⟩
           exact hK.out _ _ hb6 rfl trivial
          refine AK.sc (lim := 0) (lo := 0) rfl rfl rfl rfl ?_ ?_
          ·intro k_ u w_ hk_ hl_ hJ hF K hK
           have h134 : u 134 = .bool true := AK.facts_get hF 134 (by simp)
           have h138 : u 138 = .bool true := AK.facts_get hF 138 (by simp)
           clear hF
           simp only [h134, h138] at hK ⊢
           clear h134 h138
           go_simp
           exact hK.out _ _ bR (rfl) trivial
          refine AK.sc (lim := 0) (lo := 0) rfl rfl rfl rfl ?_ ?_
          ·intro k_ u w_ hk_ hl_ hJ hF K hK
           have h139 : u 139 = .bool true := AK.facts_get hF 139 (by simp)
           clear hF
           simp only [h139] at hK ⊢
           clear h139
           go_simp
           exact hK.out _ _ bR (rfl) trivial
          refine AK.sc (lim := 0) (lo := 0) rfl rfl rfl rfl ?_ ?_
          ·intro k_ u w_ hk_ hl_ hJ hF K hK
           have h140 : u 140 = .bool true := AK.facts_get hF 140 (by simp)
           clear hF
           simp only [h140] at hK ⊢
           clear h140
           go_simp
           exact hK.out _ _ bR (rfl) trivial
          refine AK.sc (lim := 0) (lo := 0) rfl rfl rfl rfl ?_ ?_
          ·intro k_ u w_ hk_ hl_ hJ hF K hK
           have h140 : u 140 = .bool true := AK.facts_get hF 140 (by simp)
           clear hF
           simp only [h140] at hK ⊢
           clear h140
           refine wp_load_is 29 _ rfl (.pointer (some ⟨s0, 0, none⟩)) rfl GV (HLG.out _ (HX28.out _ hJ)) ?_
           exact hK.out _ _ bR rfl trivial
          refine AK.sc (lim := 0) (lo := 0) rfl rfl rfl rfl ?_ ?_
          ·intro k_ u w_ hk_ hl_ hJ hF K hK
           have h140 : u 140 = .bool true := AK.facts_get hF 140 (by simp)
           clear hF
           simp only [h140] at hK ⊢
           clear h140
           go_simp
           exact hK.out _ _ bR (rfl) trivial
          refine AK.sc (lim := 0) (lo := 0) rfl rfl rfl rfl ?_ ?_
          ·intro k_ u w_ hk_ hl_ hJ hF K hK
           have h140 : u 140 = .bool true := AK.facts_get hF 140 (by simp)
           clear hF
           simp only [h140] at hK ⊢
           clear h140
           go_simp
           exact hK.out _ _ bR (rfl) trivial
          refine AK.sc (lim := 0) (lo := 0) rfl rfl rfl rfl ?_ ?_
          ·intro k_ u w_ hk_ hl_ hJ hF K hK
           have h140 : u 140 = .bool true := AK.facts_get hF 140 (by simp)
           clear hF
           simp only [h140] at hK ⊢
           clear h140
           go_simp
           exact hK.out _ _ bR (rfl) trivial
          refine AK.sc (lim := 0) (lo := 0) rfl rfl rfl rfl ?_ ?_
          ·intro k_ u w_ hk_ hl_ hJ hF K hK
           have h144 : u 144 = .slice (some ⟨bb, off, none⟩) n c := AK.facts_get hF 144 (by simp)
           have h145 : u 145 = .int .i64 (nm : Int) := AK.facts_get hF 145 (by simp)
           have h140 : u 140 = .bool true := AK.facts_get hF 140 (by simp)
           clear hF
           simp only [h144, h145, h140] at hK ⊢
           clear h144 h145 h140
           have hz_ := HKZ.out
           go_simp
           exact hK.out _ _ bR (rfl) trivial
          refine AK.sc (lim := 0) (lo := 0) rfl rfl rfl rfl ?_ ?_
          ·intro k_ u w_ hk_ hl_ hJ hF K hK
           have h146 : u 146 = .pointer (some ⟨bb, off + nm * 7, none⟩) := AK.facts_get hF 146 (by simp)
           have h140 : u 140 = .bool true := AK.facts_get hF 140 (by simp)
           clear hF
           simp only [h146, h140] at hK ⊢
           clear h146 h140
           refine wp_load_is 42 _ rfl (.pointer (some ⟨bb, off + nm * 7, none⟩)) rfl YV (HLYV.out _ (HX28.out _ hJ)) ?_
           exact hK.out _ _ bR rfl trivial
          refine AK.sc (lim := 0) (lo := 0) rfl rfl rfl rfl ?_ ?_
          ·intro k_ u w_ hk_ hl_ hJ hF K hK
           have h142 : u 142 = GV := AK.facts_get hF 142 (by simp)
           have h143 : u 143 = .slice A5 Os.length c5 := AK.facts_get hF 143 (by simp)
           have h147 : u 147 = YV := AK.facts_get hF 147 (by simp)
           have h140 : u 140 = .bool true := AK.facts_get hF 140 (by simp)
           clear hF
           simp only [h142, h143, h147, h140] at hK ⊢
           clear h142 h143 h147 h140
           go_simp
           refine (HRP.out _ hJ).mono ?_
           rintro r w6 ⟨rfl, hb6⟩
           exact hK.out _ _ hb6 rfl trivial
          refine AK.sc (lim := 0) (lo := 0) rfl rfl rfl rfl ?_ ?_
          ·intro k_ u w_ hk_ hl_ hJ hF K hK
           have h141 : u 141 = .int .i64 E := AK.facts_get hF 141 (by simp)
           have h148 : u 148 = .int .i64 E := AK.facts_get hF 148 (by simp)
           have h140 : u 140 = .bool true := AK.facts_get hF 140 (by simp)
           clear hF
           simp only [h141, h148, h140] at hK ⊢
           clear h141 h148 h140
           go_simp
           exact hK.out _ _ bR (rfl) trivial
          refine AK.sc (lim := 0) (lo := 0) rfl rfl rfl rfl ?_ ?_
          ·intro k_ u w_ hk_ hl_ hJ hF K hK
           have h140 : u 140 = .bool true := AK.facts_get hF 140 (by simp)
           have h149 : u 149 = .bool true := AK.facts_get hF 149 (by simp)
           clear hF
           simp only [h140, h149] at hK ⊢
           clear h140 h149
           go_simp
           exact hK.out _ _ bR (rfl) trivial
          refine AK.sc (lim := 0) (lo := 0) rfl rfl rfl rfl ?_ ?_
          ·intro k_ u w_ hk_ hl_ hJ hF K hK
           have h150 : u 150 = .bool true := AK.facts_get hF 150 (by simp)
           clear hF
           simp only [h150] at hK ⊢
           clear h150
           go_simp
           exact hK.out _ _ bR (rfl) trivial
          exact AK.StepsOk.nil
         ·intro u' W30 hJ30 hF
          have h6 : u' 6 = .bool true := AK.facts_get hF 6 (by simp [cnFb, AK.temps])
          clear hF
          simp only [h6]
          have HBC := Lib.hid (HX28.out _ hJ30)
          clear h6 hJ30
          go_wp2_with fail
          go_ret
          exact ⟨by first | rfl | simp, (by have h9 := HB2.out.trans (HBC.out.mono HB2.out.size); first | exact h9 | (rw [← HS0.out]; exact h9))⟩
   ·rw [if_neg hv] at hq
    obtain ⟨rfl, rfl, rfl⟩ : a_ = .pointer none ∧ b_ = .slice none 0 0 ∧ c_ = .bool true := by simpa using hq
    have HBC := HBC9
    clear hq hv hbw hw3 HBC9
    go_wp2_with fail
    go_ret
    exact ⟨by first | rfl | simp, (by have h9 := HB2.out.trans (HBC.out.mono HB2.out.size); first | exact h9 | (rw [← HS0.out]; exact h9))⟩
open Go.ChangeShapes Go.WideShapes Go.ChangeAt Go.WideMaps Go.WideElems Go.RowKit Go.Joins Go.Deep
theorem open_ipair {H : Type} {enc : TypeId × Value → H} {P : Program} {w : World} {base b0 : Nat} {sp : Nat → Bool} {held : Bool} {r : Reach} {t e : TypeId} {f0 f1 : Field} {v : Value} {d : DataW H} {p : List MemPlace} (hs : P.underlying t = some (.struct #[f0, f1])) (h0 : f0.type = e) (h1 : f1.type = e) (hone : oneCellFields P #[f0, f1] = true) (hC : P.cellsOf t = 2)
  (he : P.underlying e = some (.int .i64)) (hv : Value.okWide P w r b0 t v) (h : DataW.Trod enc P w base sp held t v d p) :
  ∃ x y, v = .agg #[.int .i64 x, .int .i64 y] ∧ (Lit.int .i64 x).wf = true ∧ (Lit.int .i64 y).wf = true := by
 obtain ⟨v0, v1, y0, y1, n, rfl, _, _, k0, k1⟩ := open_agg2 hs hone hC hv h
 rw [h0] at k0
 rw [h1] at k1
 obtain ⟨x, e0, _, w0⟩ := DataW.trod_int he k0
 obtain ⟨y, e1, _, w1⟩ := DataW.trod_int he k1
 simp at e0 e1
 subst e0 e1
 exact ⟨x, y, rfl, w0, w1⟩
open Go.ChangeShapes Go.WideShapes Go.ChangeAt Go.WideMaps Go.WideElems Go.RowKit Go.Deep Go.Joins
section
variable {H : Type} {enc : TypeId × Value → H} {P : Program} {W : World}
theorem open_rowsC {α : Type} (R : Lay α) {T E : TypeId} {fuel : Nat} {cs : List Value} {x : DataW H × List MemPlace} (hT : P.underlying T = some (.slice E)) (hC : P.cellsOf E = R.s) (q : α → Prop)
  (hread : ∀ fuel cs x, DataW.trod enc P W 0 (fun _ => true) true fuel E cs = some x → ∃ a, cs = R.cel a ∧ q a)
  (hf : DataW.trod enc P W 0 (fun _ => true) true fuel T cs = some x) :
  ∃ A len cap L, cs = [.slice A len cap] ∧ L.length = len ∧ len ≤ 9223372036854775807 ∧ len ≤ cap ∧ RowAt R W A L ∧ ∀ a ∈ L, q a := by
 rcases open_slice hT hf with ⟨hcs, -⟩ | ⟨a, len, cap, m, n, D, Pl, hcs, -, hl, hm, hmm, -, hx⟩
 ·exact ⟨none, 0, 0, [], hcs, rfl, by omega, by omega, RowAt.nil, fun a ha => by cases ha⟩
 ·simp only [if_true] at hmm
  subst hmm
  unfold maxLen at hm
  have key : ∀ k, k < len → ∃ y : α, (∀ j v, (R.cel y)[j]? = some v → W.cell? (a.add (k * R.s + j)) = some v) ∧ q y := by
   intro k hk
   obtain ⟨cs', h1, h2⟩ := hx k (by omega)
   rw [hC] at h1
   obtain ⟨_, hlen, hcell⟩ := World.cells?_some h1
   obtain ⟨y, rfl, hq⟩ := hread _ _ _ h2
   refine ⟨y, fun j v hj => ?_, hq⟩
   have hjl : j < (R.cel y).length := (List.getElem?_eq_some_iff.1 hj).1
   have h4 := hcell j (by rw [R.len] at hjl; omega)
   rw [add_add] at h4
   rw [h4, hj]
  obtain ⟨L, hLl, hL⟩ := list_of_all len key
  obtain ⟨b, off, spot⟩ := a
  refine ⟨_, len, _, L, hcs, hLl, by omega, by omega, fun h0 => ?_, fun y hy => ?_⟩
  ·rw [hLl] at h0
   obtain ⟨y0, hy0, hc0, -⟩ := hL 0 h0
   have hz0 := hc0 0 _ (List.getElem?_eq_getElem (by rw [R.len]; exact R.pos))
   have hspot : spot = none := by simpa [Addr.add] using World.cell?_spot hz0
   subst hspot
   have hlt : b < W.heap.size := by
    rcases Nat.lt_or_ge b W.heap.size with hlt | hge
    ·exact hlt
    ·unfold World.cell? at hz0
     rw [show (Addr.add ⟨b, off, none⟩ (0 * R.s + 0)).block = b from by rw [block_add], Array.getElem?_eq_none hge] at hz0
     simp at hz0
   refine ⟨b, off, rfl, hlt, fun j v hj => ?_⟩
   have hjl : j < len * R.s := by
    rw [← hLl, ← R.all_len]
    exact (List.getElem?_eq_some_iff.1 hj).1
   have hs := R.pos
   have hi : j / R.s < len := Nat.div_lt_of_lt_mul (by rw [Nat.mul_comm]; exact hjl)
   obtain ⟨y, hy, hc, -⟩ := hL (j / R.s) hi
   have hr : j % R.s < R.s := Nat.mod_lt _ hs
   have he : j / R.s * R.s + j % R.s = j := by rw [Nat.mul_comm]; exact Nat.div_add_mod _ _
   have h5 := hc (j % R.s) v (by rw [← R.get L (j / R.s) y hy _ hr, he]; exact hj)
   rw [he, Go.WideShapes.add_plain] at h5
   exact h5
  ·obtain ⟨k, hk⟩ := List.getElem?_of_mem hy
   have hkl : k < len := by rw [← hLl]; exact (List.getElem?_eq_some_iff.1 hk).1
   obtain ⟨z, hz, -, hq⟩ := hL k hkl
   rw [hk] at hz
   injection hz with hz
   subst hz
   exact hq
end
section
variable {H : Type} {enc : TypeId × Value → H} {W : World}
set_option maxRecDepth 100000 in
theorem open_ietysC {b0 : Nat} {v : Value} {d : DataW H} {p : List MemPlace} (hval : Value.okWide Tryz.prog W .any b0 30 v) (h : DataW.Trod enc Tryz.prog W 0 (fun _ => true) true 30 v d p) :
  ∃ A len c, v = .slice A len c ∧ ∃ Xs : List (Ety × List Lnk), Xs.length = len ∧ len ≤ 9223372036854775807 ∧ len ≤ c ∧ RowAt lyX W A (Xs.map (·.1)) ∧ ∀ a ∈ Xs, EtyK W a.1 a.2 ∧ a.1.n ≤ 9223372036854775807 ∧ a.1.txt.size ≤ maxLen ∧ EtyW a.1 := by
 obtain ⟨a0, len, cap, rfl⟩ := okWide_slice Tryz.underlying30 hval
 obtain ⟨fuel, hf⟩ := h
 obtain ⟨A, len', c, Xs, hcs, hl, hm, hcp, hr, hq⟩ := open_rowsC (α := Ety × List Lnk) ⟨fun a => etyC a.1, 7, fun _ => rfl, fun a v hv => lyX.one a.1 v hv, by decide⟩ Tryz.underlying30 (by kernel_rfl) (fun a => EtyK W a.1 a.2 ∧ a.1.n ≤ 9223372036854775807 ∧ a.1.txt.size ≤ maxLen ∧ EtyW a.1) (fun _ _ _ h => open_etyC h) hf
 simp [Value.cells] at hcs
 obtain ⟨rfl, rfl, rfl⟩ := hcs
 refine ⟨_, _, _, rfl, Xs, hl, hm, hcp, fun h0 => ?_, hq⟩
 obtain ⟨b, off, e, hlt, hc⟩ := hr (by simpa using h0)
 refine ⟨b, off, e, hlt, fun j v hj => hc j v ?_⟩
 rw [← hj]
 unfold Lay.all
 rw [List.flatMap_map]
 rfl
end
end Go.Proofs.YtacmccijnkojeaaGreat
