/- Contracts of the functions that the statements reach, part 11: what was proved of each, callees first. -/
import Derived.Shelf.SlGeneric
import Derived.Test.YthokdplikidhiaaGreatLG10
namespace Go.Proofs.YthokdplikidhiaaGreat
open Go.RowKit
def ckE (g : Grp) (L : List Acc) (G : List Ent) (p : Etl) : Int := rchkN (shpB (grpR g L G) g p.1 p.2) (acB (G.getD p.1.ent.toNat ent0).L p.2) (rtlN g p.1 p.2)
def jrnB (g : Grp) (L : List Acc) (G : List Ent) (Xs : List Etl) : Bool := grpP g L G && vldB (ckE g L G) Xs
def ChkQ (b0 : Bool) (e : Ending) : Prop := ∃ a b : Int, e = .returned (.tuple #[.int .i64 a, .int .i64 b]) ∧ (b = 0 ↔ b0 = true)
theorem ChkQ.bad {b0 : Bool} {a b : Int} (h : b ≠ 0) (h0 : b0 = false) : ChkQ b0 (.returned (.tuple #[.int .i64 a, .int .i64 b])) := ⟨a, b, rfl, by rw [h0]; simp [h]⟩
theorem ChkQ.good {b0 : Bool} {a : Int} (h0 : b0 = true) : ChkQ b0 (.returned (.tuple #[.int .i64 a, .int .i64 0])) := ⟨a, 0, rfl, by rw [h0]; simp⟩
theorem pst_at {ck : Etl → Int} {Xs : List Etl} {i : Nat} {p : Etl} (h : Xs[i]? = some p) : pst ck Xs i = postE (ck p) ((Xs.take i).map pe) (pe p) := by unfold pst; rw [h]
theorem vld_bad {ck : Etl → Int} {Xs : List Etl} {i : Nat} (hi : i < Xs.length) (h : pst ck Xs i ≠ 0) : vldB ck Xs = false := by
 cases h1 : vldB ck Xs with
 | false => rfl
 | true => exact absurd (vldB_is.1 h1 i hi) h
structure JS (g : Grp) (L : List Acc) (G : List Ent) (Xs : List Etl) (w2 : World) (i : Nat) (jb : Nat) (j : JD) (M : Nat → Prop) (W : World) : Prop where
 jk : JK M w2.heap.size W j
 jb : j.b = jb
 bd : BareD g L G j
 es : j.Es = (Xs.take i).map pe
 mw : ∀ k, M k → w2.heap.size ≤ k ∧ k < W.heap.size
 low : Below w2.heap.size w2 W
section
variable {g : Grp} {L : List Acc} {G : List Ent} {Xs : List Etl} {w2 W W' : World} {i jb : Nat} {j : JD} {M : Nat → Prop}
theorem JS.up (h : JS g L G Xs w2 i jb j M W) (hb : Below W.heap.size W W') : JS g L G Xs w2 i jb j M W' :=
 ⟨h.jk.up hb, h.jb, h.bd, h.es, fun k hk => ⟨(h.mw k hk).1, Nat.lt_of_lt_of_le (h.mw k hk).2 hb.size⟩, h.low.trans (hb.mono h.low.size)⟩
theorem JS.len (h : JS g L G Xs w2 i jb j M W) : j.n ≤ i := by
 have h1 := h.jk.len
 rw [h.es, List.length_map] at h1
 have := List.length_take_le i Xs
 omega
theorem JS.post {x : Ety} {X : List Lnk} (h : JS g L G Xs w2 i jb j M W) (hx : Xs[i]? = some (x, X)) (hp : PostP M w2.heap.size j x X W W') : ∃ j' M', JS g L G Xs w2 (i + 1) jb j' M' W' := by
 obtain ⟨A, c, A', c', h1, h2, h3, -⟩ := hp
 refine ⟨j.add (x.at A c) X A' c', MA M j A' c', h1, h.jb, h.bd, by rw [JD.add_es, h.es, take_succ_at hx, List.map_append]; rfl, fun k hk => ?_, h.low.trans (h2.below (fun k hk => (h.mw k hk).1) h.low.size)⟩
 obtain ⟨h4, h5⟩ := h3 k hk
 refine ⟨?_, h5⟩
 rcases h4 with h4 | h4
 ·exact (h.mw k h4).1
 ·have := h.low.size; omega
theorem JS.start {j0 : JD} {M0 : Nat → Prop} {w3 : World} (hj0 : JK M0 w2.heap.size w3 j0) (hx0 : j0.Xs = []) (hm0 : ∀ k, M0 k → w2.heap.size ≤ k ∧ k < w3.heap.size) (hd0 : BareD g L G j0) (hb : Below w2.heap.size w2 w3) : JS g L G Xs w2 0 j0.b j0 M0 w3 :=
 ⟨hj0, rfl, hd0, (by unfold JD.Es; rw [hx0]; first | done | rfl), hm0, hb⟩
end
def XsW (Xs : List Etl) : Prop := ∀ p ∈ Xs, p.1.n ≤ 1000 ∧ p.1.txt.size ≤ maxLen ∧ (Lit.int .i64 p.1.id).wf = true ∧ (Lit.int .i64 p.1.of_).wf = true
set_option maxRecDepth 100000 in
set_option maxHeartbeats 12800000 in
theorem jcheck_any (g : Grp) (L : List Acc) (G : List Ent) (A : Option Addr) (c : Nat) (Xs : List Etl) (w : World) (hk : GrK w g L G) (hs : Sm g G) (hw : GrW g L G) (hz : RowAt lyX w A (Xs.map (·.1))) (hzs : EtysK w Xs) (hl : Xs.length ≤ 100) (hxs : XsW Xs) :
  Calls Tryz.prog 94 #[grpV g, .slice A Xs.length c] w fun e w' => ChkQ (jrnB g L G Xs) e ∧ Below w.heap.size w w' := by
 have HNW := Lib.hid (fun W (h : GrK W g L G) => new_any g L G W h hs hw)
 obtain ⟨n, hnn⟩ : ∃ n, Xs.length = n := ⟨_, rfl⟩
 obtain ⟨GV, hGV⟩ : ∃ GV, GV = grpV g := ⟨_, rfl⟩
 rw [← hGV] at HNW
 obtain ⟨gs, hgs⟩ : ∃ gs, (grpC g).toArray = gs := ⟨_, rfl⟩
 rw [show grpV g = .agg gs by rw [grpV_is, hgs]]
 obtain ⟨s0, hs0⟩ : ∃ s0, w.heap.size = s0 := ⟨_, rfl⟩
 obtain ⟨w2, hw2⟩ : ∃ w2, w.alloc (.cells gs 29) = w2 := ⟨_, rfl⟩
 have HGB : Hid (Wh 29 w2 s0 (grpC g)) := Lib.hid (by rw [← hw2, ← hgs, ← hs0]; exact Wh.new w _ _)
 have HB2 : Hid (Below w.heap.size w w2) := Lib.hid (by rw [← hw2]; exact below_alloc_new _)
 have HKC := Lib.hid (hk.up HB2.out)
 have HS0 := Lib.hid hs0
 have HZ2 := Lib.hid (hz.up HB2.out)
 have HZS := Lib.hid (hzs.up HB2.out)
 have HXS := Lib.hid hxs
 have HNN := Lib.hid hnn
 have HL100 : Hid (n ≤ 100) := Lib.hid (by rw [← hnn]; exact hl)
 have HLG : Hid (∀ W, Below w2.heap.size w2 W → (Instr.loadAt 29 (.pointer (some ⟨s0, 0, none⟩))).run Tryz.prog W = .ok GV W) := Lib.hid (fun W h => by rw [hGV, grpV_is]; exact (HGB.out.up h).rg.load 0 29 (grpC g) rfl _ Tryz.underlying29 rfl (by kernel_rfl))
 have HBW : Hid (∀ W, Below w2.heap.size w2 W → Below w.heap.size w W) := Lib.hid (fun W h => HB2.out.trans (h.mono HB2.out.size))
 rw [hnn]
 clear hk hs hw hz hzs hl hxs hnn hgs hGV
 have HM1 : True := trivial
 cases hv : grpP g L G
 ·have HJ : Hid (jrnB g L G Xs = false) := Lib.hid (by unfold jrnB; rw [hv]; rfl)
  have HNQ : Hid (∀ B e w', NewP g L G B e w' → e = .returned (.tuple #[.pointer none, .int .i64 1])) := Lib.hid (fun B e w' h => by unfold NewP at h; rw [hv] at h; simpa using h)
  clear hv
  go_enter Tryz.func94, Tryz.ntmps94
  go_wp2_with (first
   | (clear HM1; refine wpList_load_is rfl 29 _ rfl (.pointer (some ⟨s0, 0, none⟩)) rfl GV (HLG.out _ (Below.refl _ _)) ?_)
   | (go_at_call 41; refine (HNW.out _ HKC.out).mono ?_; rintro e w3 ⟨hq, hb⟩; obtain rfl := HNQ.out _ _ _ hq; clear hq; have HB3 := Lib.hid hb; clear hb))
  go_ret2
  exact ⟨ChkQ.bad (by decide) HJ.out, by have h9 := HBW.out _ HB3.out; first | exact h9 | (rw [← HS0.out]; exact h9)⟩
 ·have HV := Lib.hid hv
  have HNQ : Hid (∀ B e w', NewP g L G B e w' → ∃ j M, e = .returned (.tuple #[.pointer (some ⟨j.b, 0, none⟩), .int .i64 0]) ∧ JK M B w' j ∧ j.Xs = [] ∧ (∀ k, M k → B ≤ k ∧ k < w'.heap.size) ∧ BareD g L G j) := Lib.hid (fun B e w' h => by unfold NewP at h; rw [hv, if_pos rfl] at h; exact h)
  clear hv
  go_enter Tryz.func94, Tryz.ntmps94
  go_wp2_with (first
   | (clear HM1; refine wpList_load_is rfl 29 _ rfl (.pointer (some ⟨s0, 0, none⟩)) rfl GV (HLG.out _ (Below.refl _ _)) ?_)
   | (go_at_call 41; refine (HNW.out _ HKC.out).mono ?_; rintro e w3 ⟨hq, hb⟩; obtain ⟨j0, M0, rfl, hj0, hx0, hm0, hd0⟩ := HNQ.out _ _ _ hq; clear hq; have HP0 := Lib.hid (JS.start (Xs := Xs) hj0 hx0 hm0 hd0 hb); clear hb hj0 hx0 hm0 hd0))
  obtain ⟨jb, hjb⟩ : ∃ jb, j0.b = jb := ⟨_, rfl⟩
  rw [hjb] at HP0 ⊢
  clear hjb
  go_loopg [21] n (fun kx s21 wr => ∃ (i : Nat), s21 = .int .i64 (i : Int) ∧ i ≤ n ∧ n - i ≤ kx ∧ Hid (∀ t, t < i → pst (ckE g L G) Xs t = 0) ∧ Hid (∃ j M, JS g L G Xs w2 i jb j M wr))
  case atStart => exact ⟨0, rfl, by omega, by omega, Lib.hid (fun t h => by omega), Lib.hid ⟨j0, M0, HP0.out⟩⟩
  case round =>
   obtain ⟨i, rfl, hi, hkx, HALL, HL⟩ := hrel
   obtain ⟨j, M, hps⟩ := HL.out
   clear HL
   by_cases hlt : i < n
   ·have hltz : (i : Int) < (n : Int) := by omega
    obtain ⟨p, hp⟩ : ∃ p, Xs[i]? = some p := ⟨_, List.getElem?_eq_getElem (by rw [HNN.out]; exact hlt)⟩
    have hpm := List.mem_of_getElem? hp
    have hym : (Xs.map (·.1))[i]? = some p.1 := by rw [List.getElem?_map, hp]; rfl
    have hkk := HZS.out p hpm
    obtain ⟨hp1, hp2, hp3, hp4⟩ := HXS.out p hpm
    obtain ⟨bb, off, hA, hbl, hrg⟩ := HZ2.out.at hym
    subst hA
    obtain ⟨x, X⟩ := p
    have HLX : Hid (∀ W, Below w2.heap.size w2 W → (Instr.loadAt 46 (.pointer (some ⟨bb, off + i * 7, none⟩))).run Tryz.prog W = .ok (etyV x) W) := Lib.hid (fun W hW => by rw [etyV_is]; exact run_loadAt_mid W bb (off + i * 7) 46 (etyC x) _ (fun jj v hv => (hW.cell (p := ⟨bb, off + i * 7 + jj, none⟩) hbl).trans (hrg jj v hv)) Tryz.underlying46 rfl (by kernel_rfl))
    have HEK : Hid (∀ W, Below w2.heap.size w2 W → EtyK W x X) := Lib.hid (fun W hW => hkk.up hW)
    have HPS := Lib.hid hps
    obtain ⟨E, hE⟩ : ∃ E, pst (ckE g L G) Xs i = E := ⟨_, rfl⟩
    have hcb := chk_bare hps.bd HV.out HKC.out.lg x X hkk.ln
    have HPO : Hid (∀ W, JS g L G Xs w2 i jb j M W → Calls Tryz.prog 24 #[.pointer (some ⟨jb, 0, none⟩), etyV x] W fun e w' => e = .returned (.int .i64 E) ∧ PostQ E M w2.heap.size j x X W w') := Lib.hid (fun W h => by
     have h9 := jpost_any (B := w2.heap.size) j x X W h.jk (HEK.out _ h.low) hp1 hp3 hp4 h.low.size (by have := h.len; have := HL100.out; omega) (fun k hk => (h.mw k hk).2)
     rw [hcb, h.es, h.jb] at h9
     rw [← hE, pst_at hp]
     exact h9)
    have HPX := Lib.hid hp
    have HPE := Lib.hid hE
    obtain ⟨XV, hXV⟩ : ∃ XV, XV = etyV x := ⟨_, rfl⟩
    rw [← hXV] at HPO
    have HLE : Hid (∀ W b, Wh 46 W b (etyC x) → (Instr.loadAt 46 (.pointer (some ⟨b, 0, none⟩))).run Tryz.prog W = .ok XV W) := Lib.hid (fun W b hW => by rw [hXV]; exact hW.rg.load 0 46 (etyC x) rfl _ Tryz.underlying46 rfl (by kernel_rfl))
    obtain ⟨sr, hsr⟩ : ∃ sr, wr.heap.size = sr := ⟨_, rfl⟩
    have HSR := Lib.hid hsr
    have HM2 : True := trivial
    have HM3 : True := trivial
    clear hym hkk hrg hbl hpm hps hcb hE hp1 hp2 hp3 hp4 hp hXV
    go_upto_region 7 with (first
     | (clear HM2; refine wpList_load_is rfl 46 _ rfl (.pointer (some ⟨bb, off + i * 7, none⟩)) rfl (etyV x) (HLX.out _ HPS.out.low) ?_)
     | (refine wpList_store_wh rfl 46 _ _ rfl sr rfl 46 [.int .i64 0, .int .i64 0, .int .i64 0, .int .i64 0, .int .i64 0, .string ⟨#[]⟩, .slice none 0 0] (etyC x) rfl (by rw [← HSR.out]; exact Wh.new wr 46 [.int .i64 0, .int .i64 0, .int .i64 0, .int .i64 0, .int .i64 0, .string ⟨#[]⟩, .slice none 0 0]) rfl (by kernel_rfl) (by kernel_rfl) ?_; intro w5 hr5 ho5 hz5; have HR5 := Lib.hid hr5.out; have hb5 : Below wr.heap.size wr w5 := only_new (by rw [HSR.out]; exact ho5.out); have HPS5 := Lib.hid (HPS.out.up hb5); clear hr5 ho5 hz5 hb5 hsr))
    by_cases hE0 : E = 0
    ·have hz1 : (E != 0) = false := by simp [hE0]
     have hz2 : (E == 0) = true := by simp [hE0]
     have HA2 : Hid (∀ t, t < i + 1 → pst (ckE g L G) Xs t = 0) := Lib.hid (fun t ht => by
      rcases Nat.lt_or_ge t i with h3 | h3
      ·exact HALL.out t h3
      ·obtain rfl : t = i := by omega
       rw [HPE.out]; exact hE0)
     have HE0 := Lib.hid hE0
     clear hE0
     go_wp2_with (first
      | (clear HM3; refine wpList_load_is rfl 46 _ rfl (.pointer (some ⟨sr, 0, none⟩)) rfl XV (HLE.out _ _ HR5.out) ?_)
      | (go_at_call 24; refine (HPO.out _ HPS5.out).mono ?_; rintro e w7 ⟨rfl, hq⟩; have HPN := Lib.hid (HPS5.out.post HPX.out (hq.yes HE0.out)); clear hq))
     go_roundg (n - (i + 1))
     case measure => omega
     case rel => exact ⟨i + 1, by (have hn100 := HL100.out; first | go_num | (refine congrArg (Value.int .i64) ?_; unfold wrap64; omega)), by omega, by omega, HA2, HPN⟩
    ·have hz1 : (E != 0) = true := by simp [hE0]
     have hz2 : (E == 0) = false := by simp [hE0]
     have HJ : Hid (jrnB g L G Xs = false) := Lib.hid (by unfold jrnB; rw [HV.out, Bool.true_and]; exact vld_bad (i := i) (by rw [HNN.out]; exact hlt) (by rw [HPE.out]; exact hE0))
     have HE0 := Lib.hid hE0
     clear hE0
     go_wp2_with (first
      | (clear HM3; refine wpList_load_is rfl 46 _ rfl (.pointer (some ⟨sr, 0, none⟩)) rfl XV (HLE.out _ _ HR5.out) ?_)
      | (go_at_call 24; refine (HPO.out _ HPS5.out).mono ?_; rintro e w7 ⟨rfl, hq⟩; have HBX := Lib.hid ((HPS5.out.up (hq.no HE0.out)).low); clear hq))
     go_ret2
     exact ⟨ChkQ.bad HE0.out HJ.out, by have h9 := HBW.out _ HBX.out; first | exact h9 | (rw [← HS0.out]; exact h9)⟩
   ·obtain rfl : n = i := by omega
    have hltz : ¬ (n : Int) < (n : Int) := by omega
    have HJ : Hid (jrnB g L G Xs = true) := Lib.hid (by unfold jrnB; rw [HV.out, Bool.true_and]; exact vldB_is.2 fun t ht => HALL.out t (by rw [HNN.out] at ht; exact ht))
    have HPS := Lib.hid hps
    clear hps
    go_wp2_with fail
    go_ret2
    exact ⟨ChkQ.good HJ.out, by have h9 := HBW.out _ HPS.out.low; first | exact h9 | (rw [← HS0.out]; exact h9)⟩
def lchF (bb off n c _s0 i : Nat) (E : Int) (GV XV : Value) : List (Nat × AK.Fact (Below0)) := [(17, AK.Fact.is (GV)), (18, AK.Fact.is (.slice (some ⟨bb, off, none⟩) n c)), (19, AK.Fact.is (.int .i64 (i : Int))), (20, AK.Fact.is (.slice (some ⟨bb, off, none⟩) i c)), (21, AK.Fact.is (.slice (some ⟨bb, off, none⟩) n c)), (22, AK.Fact.is (.int .i64 (i : Int))), (23, AK.Fact.is (.pointer (some ⟨bb, off + i * 7, none⟩))), (24, AK.Fact.is (XV)), (25, AK.Fact.is (.int .i64 E)), (7, AK.Fact.is (.int .i64 E))]
set_option maxRecDepth 100000 in
set_option maxHeartbeats 12800000 in
theorem r12check_any (g : Grp) (L : List Acc) (G : List Ent) (A : Option Addr) (c : Nat) (Xs : List Etl) (w : World) (hk : GrK w g L G) (hs : Sm g G) (hw : GrW g L G) (hz : RowAt lyX w A (Xs.map (·.1))) (hzs : EtysK w Xs) (hl : Xs.length ≤ 100) (hxs : XsW Xs) (hc : Xs.length ≤ c) :
  Calls Tryz.prog 129 #[grpV g, .slice A Xs.length c] w fun e w' => ChkQ (jrnB g L G Xs) e ∧ Below w.heap.size w w' := by
 have HRV := Lib.hid (fun W (h : GrK W g L G) => rvalid10_any g L G W h hs hw)
 have HSM := Lib.hid hs
 have HGW := Lib.hid hw
 obtain ⟨n, hnn⟩ : ∃ n, Xs.length = n := ⟨_, rfl⟩
 obtain ⟨GV, hGV⟩ : ∃ GV, GV = grpV g := ⟨_, rfl⟩
 rw [← hGV] at HRV
 have HGV := Lib.hid hGV
 obtain ⟨gs, hgs⟩ : ∃ gs, (grpC g).toArray = gs := ⟨_, rfl⟩
 rw [show grpV g = .agg gs by rw [grpV_is, hgs]]
 obtain ⟨s0, hs0⟩ : ∃ s0, w.heap.size = s0 := ⟨_, rfl⟩
 obtain ⟨w2, hw2⟩ : ∃ w2, w.alloc (.cells gs 29) = w2 := ⟨_, rfl⟩
 have HGB : Hid (Wh 29 w2 s0 (grpC g)) := Lib.hid (by rw [← hw2, ← hgs, ← hs0]; exact Wh.new w _ _)
 have HB2 : Hid (Below w.heap.size w w2) := Lib.hid (by rw [← hw2]; exact below_alloc_new _)
 have HKC := Lib.hid (hk.up HB2.out)
 have HS0 := Lib.hid hs0
 have HZ2 := Lib.hid (hz.up HB2.out)
 have HZS := Lib.hid (hzs.up HB2.out)
 have HXS := Lib.hid hxs
 have HNN := Lib.hid hnn
 have HL100 : Hid (n ≤ 100) := Lib.hid (by rw [← hnn]; exact hl)
 have HCN : Hid (n ≤ c) := Lib.hid (by rw [← hnn]; exact hc)
 have HLG : Hid (∀ W, Below w2.heap.size w2 W → (Instr.loadAt 29 (.pointer (some ⟨s0, 0, none⟩))).run Tryz.prog W = .ok GV W) := Lib.hid (fun W h => by rw [hGV, grpV_is]; exact (HGB.out.up h).rg.load 0 29 (grpC g) rfl _ Tryz.underlying29 rfl (by kernel_rfl))
 have HBW : Hid (∀ W, Below w2.heap.size w2 W → Below w.heap.size w W) := Lib.hid (fun W h => HB2.out.trans (h.mono HB2.out.size))
 rw [hnn]
 clear hk hs hw hz hzs hl hxs hnn hgs hGV hc
 have HM1 : True := trivial
 cases hv : grpP g L G
 ·have HJ : Hid (jrnB g L G Xs = false) := Lib.hid (by unfold jrnB; rw [hv]; rfl)
  have hrv : grpR g L G = false := (grp_eq g L G).symm.trans hv
  rw [hrv] at HRV
  clear hv hrv
  go_enter Tryz.func129, Tryz.ntmps129
  go_wp2_with (first
   | (clear HM1; refine wpList_load_is rfl 29 _ rfl (.pointer (some ⟨s0, 0, none⟩)) rfl GV (HLG.out _ (Below.refl _ _)) ?_)
   | (go_at_call 44; refine (HRV.out _ HKC.out).mono ?_; rintro e w4 ⟨rfl, hb⟩; have HB4 := Lib.hid hb; clear hb))
  go_ret2
  exact ⟨ChkQ.bad (by decide) HJ.out, by have h9 := HBW.out _ HB4.out; first | exact h9 | (rw [← HS0.out]; exact h9)⟩
 ·have HV := Lib.hid hv
  have hrv : grpR g L G = true := (grp_eq g L G).symm.trans hv
  rw [hrv] at HRV
  clear hv hrv
  go_enter Tryz.func129, Tryz.ntmps129
  go_wp2_with (first
   | (clear HM1; refine wpList_load_is rfl 29 _ rfl (.pointer (some ⟨s0, 0, none⟩)) rfl GV (HLG.out _ (Below.refl _ _)) ?_)
   | (go_at_call 44; refine (HRV.out _ HKC.out).mono ?_; rintro e w4 ⟨rfl, hb⟩; have HB4 := Lib.hid hb; clear hb))
  go_loopg [6] n (fun kx s6 wr => ∃ (i : Nat), s6 = .int .i64 (i : Int) ∧ i ≤ n ∧ n - i ≤ kx ∧ Hid (∀ t, t < i → pst (ckE g L G) Xs t = 0) ∧ Hid (Below w2.heap.size w2 wr))
  case atStart => exact ⟨0, rfl, by omega, by omega, Lib.hid (fun t h => by omega), HB4⟩
  case round =>
   obtain ⟨i, rfl, hi, hkx, HALL, HB⟩ := hrel
   by_cases hlt : i < n
   ·have hltz : (i : Int) < (n : Int) := by omega
    obtain ⟨p, hp⟩ : ∃ p, Xs[i]? = some p := ⟨_, List.getElem?_eq_getElem (by rw [HNN.out]; exact hlt)⟩
    have hpm := List.mem_of_getElem? hp
    have hym : (Xs.map (·.1))[i]? = some p.1 := by rw [List.getElem?_map, hp]; rfl
    have hkk := HZS.out p hpm
    obtain ⟨hp1, hp2, hp3, hp4⟩ := HXS.out p hpm
    have hzt : RowAt lyX w2 A ((Xs.take i).map (·.1)) := RowAt.pre (M := (Xs.drop i).map (·.1)) (by rw [← List.map_append, List.take_append_drop]; exact HZ2.out)
    obtain ⟨bb, off, hA, hbl, hrg⟩ := HZ2.out.at hym
    subst hA
    obtain ⟨x, X⟩ := p
    obtain ⟨XV, hXV⟩ : ∃ XV, XV = etyV x := ⟨_, rfl⟩
    have HLX : Hid (∀ W, Below w2.heap.size w2 W → (Instr.loadAt 46 (.pointer (some ⟨bb, off + i * 7, none⟩))).run Tryz.prog W = .ok XV W) := Lib.hid (fun W hW => by rw [hXV, etyV_is]; exact run_loadAt_mid W bb (off + i * 7) 46 (etyC x) _ (fun jj v hv => (hW.cell (p := ⟨bb, off + i * 7 + jj, none⟩) hbl).trans (hrg jj v hv)) Tryz.underlying46 rfl (by kernel_rfl))
    obtain ⟨E, hE⟩ : ∃ E, pst (ckE g L G) Xs i = E := ⟨_, rfl⟩
    have htl : (Xs.take i).length = i := List.length_take_of_le (by rw [HNN.out]; exact hi)
    have HRP : Hid (∀ W, Below w2.heap.size w2 W → Calls Tryz.prog 28 #[GV, .slice (some ⟨bb, off, none⟩) i c, XV] W fun e w' => e = .returned (.int .i64 E) ∧ Below W.heap.size W w') := Lib.hid (fun W h => by
     have h9 := r12post_any g L G (some ⟨bb, off, none⟩) c (Xs.take i) x X W (HKC.out.up h) HSM.out HGW.out (hzt.up h) (fun p hp => (HZS.out p (List.mem_of_mem_take hp)).up h) (fun p hp => by rw [(HZS.out p (List.mem_of_mem_take hp)).ln]; exact (HXS.out p (List.mem_of_mem_take hp)).1) (by rw [htl]; have := HL100.out; omega) (hkk.up h) hp1 hp2
     rw [htl] at h9
     rw [HGV.out, hXV, ← hE, pst_at hp]
     exact h9)
    have HPE := Lib.hid hE
    have HIZ := Lib.hid hltz
    have HIC : Hid ((i : Int) ≤ (c : Int)) := Lib.hid (by have := HCN.out; omega)
    clear hym hkk hrg hbl hpm hE hp1 hp2 hp3 hp4 hp hXV hzt htl
    go_upto_region 6 with fail
    refine AK.region_facts (Rp := Below0) (Kp := Below0) (lchF bb off n c s0 i E GV XV) (fun _ _ W => Below wr.heap.size wr W) [[], [], [], [18, 19], [], [], [21, 22], [23], [17, 20, 24], [25]] [] [[]] [0, 0, 0, 0, 0, 0, 0, 0, 0, 0] [0, 0, 0, 0, 0, 0, 0, 0, 0, 0] [] (fun u => by simp only [lchF, AK.temps, List.map_cons, List.map_nil, fillL, List.setIfInBounds_toArray, List.set_cons_zero, List.set_cons_succ]; rfl) (by kernel_rfl) (by kernel_rfl) (fun _ _ h => h.size) (fun _ _ h => h) (fun _ _ _ _ hb h => h.trans (hb.mono h.size)) (dc_drew (Below.refl _ _)) ?_ ?_
    ·refine AK.sc (lim := 0) (lo := 0) rfl rfl rfl rfl ?_ ?_
     ·intro k_ u w_ hk_ hl_ hJ hF K hK
      clear hF
      refine wp_load_is 29 _ rfl (.pointer (some ⟨s0, 0, none⟩)) rfl GV (HLG.out _ (HB.out.trans (hJ.mono HB.out.size))) ?_
      exact hK.out _ _ (Below.refl _ _) rfl trivial
     refine AK.sc (lim := 0) (lo := 0) rfl rfl rfl rfl ?_ ?_
     ·intro k_ u w_ hk_ hl_ hJ hF K hK
      clear hF
      go_simp
      exact hK.out _ _ (Below.refl _ _) (rfl) trivial
     refine AK.sc (lim := 0) (lo := 0) rfl rfl rfl rfl ?_ ?_
     ·intro k_ u w_ hk_ hl_ hJ hF K hK
      clear hF
      go_simp
      exact hK.out _ _ (Below.refl _ _) (rfl) trivial
     refine AK.sc (lim := 0) (lo := 0) rfl rfl rfl rfl ?_ ?_
     ·intro k_ u w_ hk_ hl_ hJ hF K hK
      have h18 : u 18 = .slice (some ⟨bb, off, none⟩) n c := AK.facts_get hF 18 (by simp)
      have h19 : u 19 = .int .i64 (i : Int) := AK.facts_get hF 19 (by simp)
      clear hF
      simp only [h18, h19] at hK ⊢
      clear h18 h19
      have hz_ := HIC.out
      have hz2_ := HIZ.out
      go_simp
      exact hK.out _ _ (Below.refl _ _) (rfl) trivial
     refine AK.sc (lim := 0) (lo := 0) rfl rfl rfl rfl ?_ ?_
     ·intro k_ u w_ hk_ hl_ hJ hF K hK
      clear hF
      go_simp
      exact hK.out _ _ (Below.refl _ _) (rfl) trivial
     refine AK.sc (lim := 0) (lo := 0) rfl rfl rfl rfl ?_ ?_
     ·intro k_ u w_ hk_ hl_ hJ hF K hK
      clear hF
      go_simp
      exact hK.out _ _ (Below.refl _ _) (rfl) trivial
     refine AK.sc (lim := 0) (lo := 0) rfl rfl rfl rfl ?_ ?_
     ·intro k_ u w_ hk_ hl_ hJ hF K hK
      have h21 : u 21 = .slice (some ⟨bb, off, none⟩) n c := AK.facts_get hF 21 (by simp)
      have h22 : u 22 = .int .i64 (i : Int) := AK.facts_get hF 22 (by simp)
      clear hF
      simp only [h21, h22] at hK ⊢
      clear h21 h22
      have hz_ := HIZ.out
      go_simp
      exact hK.out _ _ (Below.refl _ _) (rfl) trivial
     refine AK.sc (lim := 0) (lo := 0) rfl rfl rfl rfl ?_ ?_
     ·intro k_ u w_ hk_ hl_ hJ hF K hK
      have h23 : u 23 = .pointer (some ⟨bb, off + i * 7, none⟩) := AK.facts_get hF 23 (by simp)
      clear hF
      simp only [h23] at hK ⊢
      clear h23
      refine wp_load_is 46 _ rfl (.pointer (some ⟨bb, off + i * 7, none⟩)) rfl XV (HLX.out _ (HB.out.trans (hJ.mono HB.out.size))) ?_
      exact hK.out _ _ (Below.refl _ _) rfl trivial
     refine AK.sc (lim := 0) (lo := 0) rfl rfl rfl rfl ?_ ?_
     ·intro k_ u w_ hk_ hl_ hJ hF K hK
      have h17 : u 17 = GV := AK.facts_get hF 17 (by simp)
      have h20 : u 20 = .slice (some ⟨bb, off, none⟩) i c := AK.facts_get hF 20 (by simp)
      have h24 : u 24 = XV := AK.facts_get hF 24 (by simp)
      clear hF
      simp only [h17, h20, h24] at hK ⊢
      clear h17 h20 h24
      go_simp
      refine (HRP.out _ (HB.out.trans (hJ.mono HB.out.size))).mono ?_
      rintro r w6 ⟨rfl, hb6⟩
      exact hK.out _ _ hb6 rfl trivial
     refine AK.sc (lim := 0) (lo := 0) rfl rfl rfl rfl ?_ ?_
     ·intro k_ u w_ hk_ hl_ hJ hF K hK
      have h25 : u 25 = .int .i64 E := AK.facts_get hF 25 (by simp)
      clear hF
      simp only [h25] at hK ⊢
      clear h25
      go_simp
      exact hK.out _ _ (Below.refl _ _) (rfl) trivial
     exact AK.StepsOk.nil
    ·intro u W9 hJ9 hF
     have h7 : u 7 = .int .i64 E := AK.facts_get hF 7 (by simp [lchF, AK.temps])
     clear hF
     have HB9 := Lib.hid (HB.out.trans (hJ9.mono HB.out.size))
     simp only [h7]
     clear hJ9 h7
     by_cases hE0 : E = 0
     ·have hz1 : (E != 0) = false := by simp [hE0]
      have hz2 : (E == 0) = true := by simp [hE0]
      have HA2 : Hid (∀ t, t < i + 1 → pst (ckE g L G) Xs t = 0) := Lib.hid (fun t ht => by
       rcases Nat.lt_or_ge t i with h3 | h3
       ·exact HALL.out t h3
       ·obtain rfl : t = i := by omega
        rw [HPE.out]; exact hE0)
      clear hE0
      go_wp2_with fail
      go_roundg (n - (i + 1))
      case measure => omega
      case rel => exact ⟨i + 1, by (have hn100 := HL100.out; first | go_num | (refine congrArg (Value.int .i64) ?_; unfold wrap64; omega)), by omega, by omega, HA2, HB9⟩
     ·have hz1 : (E != 0) = true := by simp [hE0]
      have hz2 : (E == 0) = false := by simp [hE0]
      have HJ : Hid (jrnB g L G Xs = false) := Lib.hid (by unfold jrnB; rw [HV.out, Bool.true_and]; exact vld_bad (i := i) (by rw [HNN.out]; exact hlt) (by rw [HPE.out]; exact hE0))
      have HE0 := Lib.hid hE0
      clear hE0
      go_wp2_with fail
      go_ret2
      exact ⟨ChkQ.bad HE0.out HJ.out, by have h9 := HBW.out _ HB9.out; first | exact h9 | (rw [← HS0.out]; exact h9)⟩
   ·obtain rfl : n = i := by omega
    have hltz : ¬ (n : Int) < (n : Int) := by omega
    have HJ : Hid (jrnB g L G Xs = true) := Lib.hid (by unfold jrnB; rw [HV.out, Bool.true_and]; exact vldB_is.2 fun t ht => HALL.out t (by rw [HNN.out] at ht; exact ht))
    go_wp2_with fail
    go_ret2
    exact ⟨ChkQ.good HJ.out, by have h9 := HBW.out _ HB.out; first | exact h9 | (rw [← HS0.out]; exact h9)⟩
set_option maxRecDepth 100000 in
set_option maxHeartbeats 3200000 in
theorem r12valid_any (g : Grp) (L : List Acc) (G : List Ent) (A : Option Addr) (c : Nat) (Xs : List Etl) (w : World) (hk : GrK w g L G) (hs : Sm g G) (hw : GrW g L G) (hz : RowAt lyX w A (Xs.map (·.1))) (hzs : EtysK w Xs) (hl : Xs.length ≤ 100) (hxs : XsW Xs) (hc : Xs.length ≤ c) :
  Calls Tryz.prog 100 #[grpV g, .slice A Xs.length c] w fun e w' => e = .returned (.bool (jrnB g L G Xs)) ∧ Below w.heap.size w w' := by
 have HCK := Lib.hid (fun W (h : Below w.heap.size w W) => r12check_any g L G A c Xs W (hk.up h) hs hw (hz.up h) (hzs.up h) hl hxs hc)
 obtain ⟨GV, hGV⟩ : ∃ GV, GV = grpV g := ⟨_, rfl⟩
 rw [← hGV] at HCK
 obtain ⟨gs, hgs⟩ : ∃ gs, (grpC g).toArray = gs := ⟨_, rfl⟩
 rw [show grpV g = .agg gs by rw [grpV_is, hgs]]
 obtain ⟨s0, hs0⟩ : ∃ s0, w.heap.size = s0 := ⟨_, rfl⟩
 obtain ⟨w2, hw2⟩ : ∃ w2, w.alloc (.cells gs 29) = w2 := ⟨_, rfl⟩
 have HGB : Hid (Wh 29 w2 s0 (grpC g)) := Lib.hid (by rw [← hw2, ← hgs, ← hs0]; exact Wh.new w _ _)
 have HB2 : Hid (Below w.heap.size w w2) := Lib.hid (by rw [← hw2]; exact below_alloc_new _)
 have HS0 := Lib.hid hs0
 have HLG : Hid ((Instr.loadAt 29 (.pointer (some ⟨s0, 0, none⟩))).run Tryz.prog w2 = .ok GV w2) := Lib.hid (by rw [hGV, grpV_is]; exact HGB.out.rg.load 0 29 (grpC g) rfl _ Tryz.underlying29 rfl (by kernel_rfl))
 obtain ⟨jB, hjB⟩ : ∃ jB, jrnB g L G Xs = jB := ⟨_, rfl⟩
 rw [hjB] at HCK ⊢
 clear hk hs hw hz hzs hl hxs hgs hGV hc hjB
 have HM1 : True := trivial
 go_enter Tryz.func100, Tryz.ntmps100
 go_wp2_with (first
  | (clear HM1; refine wpList_load_is rfl 29 _ rfl (.pointer (some ⟨s0, 0, none⟩)) rfl GV HLG.out ?_)
  | (go_at_call 129; refine (HCK.out _ HB2.out).mono ?_; rintro e w3 ⟨⟨a9, b9, rfl, hab⟩, hb⟩; have HAB := Lib.hid hab; have HB3 := Lib.hid hb; clear hab hb))
 go_ret
 exact ⟨by
  have h9 := HAB.out
  cases jB with
  | true => rw [h9.2 rfl]; rfl
  | false =>
   have h8 : (b9 == 0) = false := by
    cases h7 : (b9 == 0) with
    | false => rfl
    | true => exact absurd (h9.1 (by simpa using h7)) (by decide)
   rw [h8]; rfl, by have h9 := HB2.out.trans (HB3.out.mono HB2.out.size); first | exact h9 | (rw [← HS0.out]; exact h9)⟩
open Go.RowKit
theorem sumI_snoc {α : Type} (L : List α) (q : α) (f : α → Int) : sumI (L ++ [q]) f = sumI L f + f q := by rw [sumI_app, sumI_cons, sumI_nil, Int.add_zero]
def pSum (f : LnD → Int) (Xs : List Etl) (e hi : Int) (k : Nat) (Y : List Lnk) (d : Int) (j : Nat) : Int := wr (sumI (lnsU (Xs.take k) e hi) f + sumI ((Y.take j).map fun l => (l, d)) f)
theorem pSum_zero (f : LnD → Int) (Xs : List Etl) (e hi : Int) (k : Nat) (Y : List Lnk) (d : Int) : pSum f Xs e hi k Y d 0 = wr (sumI (lnsU (Xs.take k) e hi) f) := by
 unfold pSum; rw [List.take_zero, List.map_nil, sumI_nil, Int.add_zero]
theorem pSum_succ {f : LnD → Int} {Xs : List Etl} {e hi : Int} {k : Nat} {Y : List Lnk} {d : Int} {j : Nat} {l : Lnk} (h : Y[j]? = some l) : pSum f Xs e hi k Y d (j + 1) = wr (pSum f Xs e hi k Y d j + f (l, d)) := by
 unfold pSum
 rw [take_succ_at h, List.map_append, List.map_cons, List.map_nil, sumI_snoc, wr_add, Int.add_assoc]
theorem pSum_end {f : LnD → Int} {Xs : List Etl} {e hi : Int} {k : Nat} {p : Etl} {m : Nat} (h : Xs[k]? = some p) (hm : p.2.length = m) (he : p.1.ent = e) (hd : ¬ hi < p.1.day) : pSum f Xs e hi k p.2 p.1.day m = wr (sumI (lnsU (Xs.take (k + 1)) e hi) f) := by
 unfold pSum
 rw [lnsU_succ h, lns1_yes he hd, sumI_app, List.take_of_length_le (l := p.2) (by omega)]
theorem pSum_skip {f : LnD → Int} {Xs : List Etl} {e hi : Int} {k : Nat} {p : Etl} (h : Xs[k]? = some p) (hz : ∀ q ∈ lns1 e hi p, f q = 0) : wr (sumI (lnsU (Xs.take (k + 1)) e hi) f) = wr (sumI (lnsU (Xs.take k) e hi) f) := by
 rw [lnsU_succ h, sumI_app, sumI_zero hz, Int.add_zero]
set_option maxRecDepth 100000 in
set_option maxHeartbeats 12800000 in
theorem rsums14_any (A : Option Addr) (c : Nat) (Xs : List Etl) (e a lo hi : Int) (w : World) (hz : RowAt lyX w A (Xs.map (·.1))) (hzs : EtysK w Xs) (hzn : ∀ p ∈ Xs, p.2.length ≤ 1000) (hl : Xs.length ≤ 100000) :
  Calls Tryz.prog 65 #[.slice A Xs.length c, .int .i64 e, .int .i64 a, .int .i64 lo, .int .i64 hi] w fun r w' => r = .returned (.tuple #[.int .i64 (wr (dbtS Xs e a lo hi)), .int .i64 (wr (cdtS Xs e a lo hi))]) ∧ Below w.heap.size w w' := by
 obtain ⟨n, hn⟩ : ∃ n, Xs.length = n := ⟨_, rfl⟩
 rw [hn] at hl ⊢
 obtain ⟨B0, hB0⟩ : ∃ B0, w.heap.size = B0 := ⟨_, rfl⟩
 obtain ⟨DD, hDD⟩ : ∃ DD : Nat → Int, DD = fun k => wr (sumI (lnsU (Xs.take k) e hi) (lfD a lo)) := ⟨_, rfl⟩
 obtain ⟨CC, hCC⟩ : ∃ CC : Nat → Int, CC = fun k => wr (sumI (lnsU (Xs.take k) e hi) (lfC a lo)) := ⟨_, rfl⟩
 have d0 : DD 0 = 0 := by rw [hDD]; exact wr_zero
 have k0 : CC 0 = 0 := by rw [hCC]; exact wr_zero
 have HDN : Hid (DD n = wr (dbtS Xs e a lo hi)) := Lib.hid (by rw [hDD]; dsimp only; rw [List.take_of_length_le (by omega), dbt_ref]; rfl)
 have HCN : Hid (CC n = wr (cdtS Xs e a lo hi)) := Lib.hid (by rw [hCC]; dsimp only; rw [List.take_of_length_le (by omega), cdt_ref]; rfl)
 have HB0 := Lib.hid hB0
 have HN := Lib.hid hn
 have HZ := Lib.hid hz
 have HZS := Lib.hid hzs
 have HZN := Lib.hid hzn
 have HD0 := Lib.hid d0
 have HK0 := Lib.hid k0
 have HDD := Lib.hid hDD
 have HCC := Lib.hid hCC
 clear hn hz hzs hzn d0 k0 hDD hCC
 go_enter Tryz.func65, Tryz.ntmps65
 go_wp2_with fail
 go_loopg [12, 13, 14] n (fun kx s12 s13 s14 wv => ∃ (k : Nat), s14 = .int .i64 k ∧ k ≤ n ∧ n - k ≤ kx ∧ s12 = .int .i64 (DD k) ∧ s13 = .int .i64 (CC k) ∧ Hid (Below B0 w wv))
 case atStart => exact ⟨0, rfl, by omega, by omega, by rw [HD0.out], by rw [HK0.out], Lib.hid (Below.refl _ _)⟩
 case round =>
  obtain ⟨k, rfl, hk, hkx, rfl, rfl, HB⟩ := hrel
  by_cases hlt : k < n
  ·have hltz : (k : Int) < (n : Int) := by omega
   obtain ⟨q, hq⟩ : ∃ q, Xs[k]? = some q := ⟨_, List.getElem?_eq_getElem (by rw [HN.out]; exact hlt)⟩
   obtain ⟨y, Y⟩ := q
   have hmem : (y, Y) ∈ Xs := List.mem_of_getElem? hq
   have hYK := HZS.out _ hmem
   have HYZ := Lib.hid hYK.hz
   have HYL : Hid (Y.length = y.n) := Lib.hid hYK.ln
   have HYn : Hid (y.n ≤ 1000) := Lib.hid (by have h1 : Y.length ≤ 1000 := HZN.out _ hmem; have h2 : Y.length = y.n := hYK.ln; omega)
   obtain ⟨b, off, hA, hbl, hrg⟩ := HZ.out.at (i := k) (a := y) (by rw [List.getElem?_map, hq]; rfl)
   subst hA
   have HLY : Hid (∀ W, Below B0 w W → (Instr.loadAt 46 (.pointer (some ⟨b, off + k * 7, none⟩))).run Tryz.prog W = .ok (etyV y) W) := Lib.hid (fun W hW => run_loadAt_mid W b (off + k * 7) 46 (etyC y) _ (fun jj v hv => (hW.cell (p := ⟨b, off + k * 7 + jj, none⟩) (by rw [← HB0.out]; exact hbl)).trans (hrg jj v hv)) Tryz.underlying46 rfl (by kernel_rfl))
   have HQ := Lib.hid hq
   obtain ⟨sr, hsr⟩ : ∃ sr, wr.heap.size = sr := ⟨_, rfl⟩
   have HSR := Lib.hid hsr
   have HM0 : True := trivial
   have HSB : Hid (B0 ≤ sr) := Lib.hid (by have := HB.out.size; have := HB0.out; omega)
   clear hmem hYK hrg hbl hq
   go_upto_region 6 with (first
    | (clear HM0; refine wpList_load_is rfl 46 _ rfl (.pointer (some ⟨b, off + k * 7, none⟩)) rfl (etyV y) (HLY.out _ HB.out) ?_)
    | (refine wpList_store_wh rfl 46 _ _ rfl sr rfl 46 [.int .i64 0, .int .i64 0, .int .i64 0, .int .i64 0, .int .i64 0, .string ⟨#[]⟩, .slice none 0 0] (etyC y) rfl (by rw [← HSR.out]; exact Wh.new wr 46 [.int .i64 0, .int .i64 0, .int .i64 0, .int .i64 0, .int .i64 0, .string ⟨#[]⟩, .slice none 0 0]) rfl (by kernel_rfl) (by kernel_rfl) ?_; intro w5 hr5 ho5 hz5; have HR5 := Lib.hid hr5.out; have hb5 : Below wr.heap.size wr w5 := only_new (by rw [HSR.out]; exact ho5.out); have HB5 := Lib.hid (HB.out.trans (hb5.mono (by have := HB.out.size; have := HB0.out; omega))); clear hr5 ho5 hz5 hb5 hsr HB))
   have p1 := HR5.out.at 1 _ rfl
   have p2 := HR5.out.at 2 _ rfl
   have p6 := HR5.out.at 6 _ rfl
   by_cases he : y.ent = e
   ·have e1 : (y.ent != e) = false := by simp [he]
    have e2 : (y.ent == e) = true := by simp [he]
    by_cases hlo : y.day < lo
    ·have l1 : decide (y.day < lo) = true := decide_eq_true hlo
     have hz1 : ∀ q ∈ lns1 e hi (y, Y), lfD a lo q = 0 ∧ lfC a lo q = 0 := fun q hq => by
      unfold lns1 at hq
      split at hq
      ·obtain ⟨l, -, rfl⟩ := List.mem_map.1 hq
       have : ¬ lo ≤ y.day := by omega
       unfold lfD lfC
       simp [this]
      ·cases hq
     have hDs : DD (k + 1) = DD k := by rw [HDD.out]; exact pSum_skip HQ.out fun q hq => (hz1 q hq).1
     have hCs : CC (k + 1) = CC k := by rw [HCC.out]; exact pSum_skip HQ.out fun q hq => (hz1 q hq).2
     have HDs := Lib.hid hDs
     have HCs := Lib.hid hCs
     clear hz1 hDs hCs he hlo
     go_wp2_with fail
     go_roundg (n - (k + 1))
     case measure => omega
     case rel => exact ⟨k + 1, by go_num, by omega, by omega, by rw [HDs.out], by rw [HCs.out], HB5⟩
    ·have l1 : decide (y.day < lo) = false := decide_eq_false hlo
     by_cases hhi : hi < y.day
     ·have l2 : decide (y.day > hi) = true := decide_eq_true hhi
      have l3 : decide (hi < y.day) = true := decide_eq_true hhi
      have hDs : DD (k + 1) = DD k := by rw [HDD.out]; exact pSum_skip HQ.out fun q hq => by rw [lns1_day hhi] at hq; cases hq
      have hCs : CC (k + 1) = CC k := by rw [HCC.out]; exact pSum_skip HQ.out fun q hq => by rw [lns1_day hhi] at hq; cases hq
      have HDs := Lib.hid hDs
      have HCs := Lib.hid hCs
      clear hDs hCs he hlo hhi
      go_wp2_with fail
      go_roundg (n - (k + 1))
      case measure => omega
      case rel => exact ⟨k + 1, by go_num, by omega, by omega, by rw [HDs.out], by rw [HCs.out], HB5⟩
     ·have l2 : decide (y.day > hi) = false := decide_eq_false hhi
      have l3 : decide (hi < y.day) = false := decide_eq_false hhi
      obtain ⟨m, hm⟩ : ∃ m, y.n = m := ⟨_, rfl⟩
      obtain ⟨EE, hEE⟩ : ∃ EE : Nat → Int, EE = pSum (lfD a lo) Xs e hi k Y y.day := ⟨_, rfl⟩
      obtain ⟨FF, hFF⟩ : ∃ FF : Nat → Int, FF = pSum (lfC a lo) Xs e hi k Y y.day := ⟨_, rfl⟩
      have HE0 : Hid (EE 0 = DD k) := Lib.hid (by rw [hEE, HDD.out]; exact pSum_zero _ _ _ _ _ _ _)
      have HF0 : Hid (FF 0 = CC k) := Lib.hid (by rw [hFF, HCC.out]; exact pSum_zero _ _ _ _ _ _ _)
      have HEm : Hid (EE m = DD (k + 1)) := Lib.hid (by rw [hEE, HDD.out]; exact pSum_end (p := (y, Y)) HQ.out (by rw [← hm]; exact HYL.out) he hhi)
      have HFm : Hid (FF m = CC (k + 1)) := Lib.hid (by rw [hFF, HCC.out]; exact pSum_end (p := (y, Y)) HQ.out (by rw [← hm]; exact HYL.out) he hhi)
      have HES : Hid (∀ j l, Y[j]? = some l → EE (j + 1) = wrap64 (EE j + lfD a lo (l, y.day)) ∧ FF (j + 1) = wrap64 (FF j + lfC a lo (l, y.day))) := Lib.hid (fun j l h => by rw [hEE, hFF]; exact ⟨pSum_succ h, pSum_succ h⟩)
      have HEW : Hid (∀ j, wrap64 (EE j) = EE j ∧ wrap64 (FF j) = FF j) := Lib.hid (fun j => by rw [hEE, hFF]; unfold pSum; exact ⟨wr_wr _, wr_wr _⟩)
      have HLO : Hid (lo ≤ y.day) := Lib.hid (by omega)
      have HM := Lib.hid hm
      rw [hm] at p6
      clear he hlo hhi hm hEE hFF
      go_wp2_with fail
      go_loopg [12, 13, 16] m (fun kz s12 s13 s16 wz => ∃ (j : Nat), s16 = .int .i64 (j : Int) ∧ j ≤ m ∧ m - j ≤ kz ∧ s12 = .int .i64 (EE j) ∧ s13 = .int .i64 (FF j) ∧ wz = w5)
      case atStart => exact ⟨0, rfl, by omega, by omega, by rw [HE0.out], by rw [HF0.out], rfl⟩
      case round =>
       obtain ⟨j, rfl, hj, hjz, rfl, rfl, hV⟩ := hrel
       have hV2 := hV.symm
       subst hV2
       clear hV
       have hm1000 : m ≤ 1000 := by have := HYn.out; have := HM.out; omega
       by_cases hjt : j < m
       ·have hjtz : (j : Int) < (m : Int) := by omega
        obtain ⟨l, hl9⟩ : ∃ l, Y[j]? = some l := ⟨_, List.getElem?_eq_getElem (by rw [HYL.out, HM.out]; exact hjt)⟩
        obtain ⟨gb, go, hB, hgl, hrg2⟩ := (lnk_row.2 HYZ.out).at hl9
        have q0 : w5.cell? ⟨gb, go + j * 3 + 0, none⟩ = some (.int .i64 l.frm) := (HB5.out.cell (p := ⟨gb, go + j * 3 + 0, none⟩) (by rw [← HB0.out]; exact hgl)).trans (hrg2 0 _ rfl)
        rw [Nat.add_zero] at q0
        have q1 : w5.cell? ⟨gb, go + j * 3 + 1, none⟩ = some (.int .i64 l.tgt) := (HB5.out.cell (p := ⟨gb, go + j * 3 + 1, none⟩) (by rw [← HB0.out]; exact hgl)).trans (hrg2 1 _ rfl)
        rw [hB] at p6
        have HES1 := Lib.hid (HES.out j l hl9)
        clear hl9 hrg2 hgl hB
        by_cases hf : l.frm = a
        ·have f1 : (l.frm != a) = false := by simp [hf]
         have f2 : (l.frm == a) = true := by simp [hf]
         have HE1 : Hid (EE (j + 1) = wrap64 (EE j + max 0 l.tgt)) := Lib.hid (by rw [HES1.out.1]; unfold lfD; rw [if_pos ⟨hf, HLO.out⟩])
         have HF1 : Hid (FF (j + 1) = wrap64 (FF j + min 0 l.tgt)) := Lib.hid (by rw [HES1.out.2]; unfold lfC; rw [if_pos ⟨hf, HLO.out⟩])
         clear hf
         go_wp2_with fail
         all_goals
          go_roundg (m - (j + 1))
          case measure => omega
          case rel => exact ⟨j + 1, by go_num, by omega, by omega, by rw [HE1.out]; exact congrArg (Value.int .i64) (congrArg wrap64 (by omega)), by rw [HF1.out]; exact congrArg (Value.int .i64) (congrArg wrap64 (by omega)), rfl⟩
        ·have f1 : (l.frm != a) = true := by simp [hf]
         have f2 : (l.frm == a) = false := by simp [hf]
         have HE1 : Hid (EE (j + 1) = EE j) := Lib.hid (by rw [HES1.out.1]; unfold lfD; rw [if_neg (fun h => hf h.1), Int.add_zero, (HEW.out j).1])
         have HF1 : Hid (FF (j + 1) = FF j) := Lib.hid (by rw [HES1.out.2]; unfold lfC; rw [if_neg (fun h => hf h.1), Int.add_zero, (HEW.out j).2])
         clear hf
         go_wp2_with fail
         go_roundg (m - (j + 1))
         case measure => omega
         case rel => exact ⟨j + 1, by go_num, by omega, by omega, by rw [HE1.out], by rw [HF1.out], rfl⟩
       ·obtain rfl : m = j := by omega
        have hjtz : ¬ (m : Int) < (m : Int) := by omega
        go_wp2_with fail
        go_roundg (n - (k + 1))
        case measure => omega
        case rel => exact ⟨k + 1, by go_num, by omega, by omega, by rw [HEm.out], by rw [HFm.out], HB5⟩
   ·have e1 : (y.ent != e) = true := by simp [he]
    have e2 : (y.ent == e) = false := by simp [he]
    have hDs : DD (k + 1) = DD k := by rw [HDD.out]; exact pSum_skip HQ.out fun q hq => by rw [lns1_ent he] at hq; cases hq
    have hCs : CC (k + 1) = CC k := by rw [HCC.out]; exact pSum_skip HQ.out fun q hq => by rw [lns1_ent he] at hq; cases hq
    have HDs := Lib.hid hDs
    have HCs := Lib.hid hCs
    clear hDs hCs he
    go_wp2_with fail
    go_roundg (n - (k + 1))
    case measure => omega
    case rel => exact ⟨k + 1, by go_num, by omega, by omega, by rw [HDs.out], by rw [HCs.out], HB5⟩
  ·obtain rfl : k = n := by omega
   have hltz : ¬ (k : Int) < (k : Int) := by omega
   go_wp2_with fail
   go_ret2
   exact ⟨by rw [HDN.out, HCN.out]; rfl, by first | exact HB.out | (rw [HB0.out]; exact HB.out)⟩
open Go.RowKit Go.Shelf
structure LgX (w : World) (g : Grp) (L : List Acc) (G : List Ent) (A : Option Addr) (c : Nat) (Xs : List Etl) : Prop where
 hk : GrK w g L G
 hs : Sm g G
 hw : GrW g L G
 hz : RowAt lyX w A (Xs.map (·.1))
 hzs : EtysK w Xs
 hl : Xs.length ≤ 100
 hxs : XsW Xs
 hc : Xs.length ≤ c
theorem LgX.up {w w' : World} {g : Grp} {L : List Acc} {G : List Ent} {A : Option Addr} {c : Nat} {Xs : List Etl} (h : LgX w g L G A c Xs) (hb : Below w.heap.size w w') : LgX w' g L G A c Xs := ⟨h.hk.up hb, h.hs, h.hw, h.hz.up hb, h.hzs.up hb, h.hl, h.hxs, h.hc⟩
theorem LgX.zn {w : World} {g : Grp} {L : List Acc} {G : List Ent} {A : Option Addr} {c : Nat} {Xs : List Etl} (h : LgX w g L G A c Xs) : ∀ p ∈ Xs, p.2.length ≤ 1000 := fun p hp => by rw [(h.hzs p hp).ln]; exact (h.hxs p hp).1
theorem LgX.l5 {w : World} {g : Grp} {L : List Acc} {G : List Ent} {A : Option Addr} {c : Nat} {Xs : List Etl} (h : LgX w g L G A c Xs) : Xs.length ≤ 100000 := by have := h.hl; omega
def lgE (g : Grp) (L : List Acc) (G : List Ent) (Xs : List Etl) (e : Int) : Int := if jrnB g L G Xs = true then (if 0 ≤ e ∧ e < (g.m : Int) then 0 else 2) else 1
def acE (G : List Ent) (e a : Int) : Int := if (fnd (G.getD e.toNat ent0).L a).isSome = true then 0 else 17
def knE (g : Grp) (L : List Acc) (G : List Ent) (Xs : List Etl) (e a : Int) : Int := if lgE g L G Xs e = 0 then acE G e a else lgE g L G Xs e
theorem lgE_zero {g : Grp} {L : List Acc} {G : List Ent} {Xs : List Etl} {e : Int} (h : lgE g L G Xs e = 0) : jrnB g L G Xs = true ∧ 0 ≤ e ∧ e < (g.m : Int) := by
 unfold lgE at h
 split at h
 ·rename_i h1
  split at h
  ·rename_i h2; exact ⟨h1, h2⟩
  ·cases h
 ·cases h
theorem jrn_grp {g : Grp} {L : List Acc} {G : List Ent} {Xs : List Etl} (h : jrnB g L G Xs = true) : grpP g L G = true ∧ vldB (ckE g L G) Xs = true := by unfold jrnB at h; rw [Bool.and_eq_true] at h; exact h
theorem grp_cal {g : Grp} {L : List Acc} {G : List Ent} (h : grpP g L G = true) : clV g.cy g.cm g.cp = true := by unfold grpP at h; simp only [Bool.and_eq_true] at h; exact h.2.1
set_option maxRecDepth 100000 in
set_option maxHeartbeats 6400000 in
theorem lce_any (g : Grp) (L : List Acc) (G : List Ent) (A : Option Addr) (c : Nat) (Xs : List Etl) (e : Int) (w : World) (h : LgX w g L G A c Xs) :
  Calls Tryz.prog 61 #[grpV g, .slice A Xs.length c, .int .i64 e] w fun r w' => r = .returned (.int .i64 (lgE g L G Xs e)) ∧ Below w.heap.size w w' := by
 obtain ⟨GV, hGV⟩ : ∃ GV, GV = grpV g := ⟨_, rfl⟩
 obtain ⟨gs, hgs⟩ : ∃ gs, (grpC g).toArray = gs := ⟨_, rfl⟩
 obtain ⟨s0, hs0⟩ : ∃ s0, w.heap.size = s0 := ⟨_, rfl⟩
 obtain ⟨w2, hw2⟩ : ∃ w2, w.alloc (.cells gs 29) = w2 := ⟨_, rfl⟩
 have HGB : Hid (Wh 29 w2 s0 (grpC g)) := Lib.hid (by rw [← hw2, ← hgs, ← hs0]; exact Wh.new w _ _)
 have HB2 : Hid (Below w.heap.size w w2) := Lib.hid (by rw [← hw2]; exact below_alloc_new _)
 have HS0 := Lib.hid hs0
 have HLG : Hid (∀ W, Below w2.heap.size w2 W → (Instr.loadAt 29 (.pointer (some ⟨s0, 0, none⟩))).run Tryz.prog W = .ok GV W) := Lib.hid (fun W h => by rw [hGV, grpV_is]; exact (HGB.out.up h).rg.load 0 29 (grpC g) rfl _ Tryz.underlying29 rfl (by kernel_rfl))
 have HBC : Hid (Below w2.heap.size w2 w2) := Lib.hid (Below.refl _ _)
 have HBW : Hid (∀ W, Below w2.heap.size w2 W → Below w.heap.size w W) := Lib.hid (fun W h => HB2.out.trans (h.mono HB2.out.size))
 have HCK := Lib.hid (fun W (hb : Below w2.heap.size w2 W) => jcheck_any g L G A c Xs W ((h.up HB2.out).up hb).hk h.hs h.hw ((h.up HB2.out).up hb).hz ((h.up HB2.out).up hb).hzs h.hl h.hxs)
 have hGS : GV = .agg gs := by rw [hGV, grpV_is, hgs]
 rw [← hGV] at HCK ⊢
 rw [hGS]
 clear hGS hGV
 have HC20 : Hid (∀ W, Below w2.heap.size w2 W → W.cell? ⟨s0, 20, none⟩ = some (.slice g.E g.m g.d)) := Lib.hid (fun W hb => (HGB.out.up hb).at 20 _ rfl)
 have HM1 : True := trivial
 clear hgs h
 obtain ⟨n, hn⟩ : ∃ n, Xs.length = n := ⟨_, rfl⟩
 rw [hn] at HCK ⊢
 clear hn
 cases hj : jrnB g L G Xs
 ·rw [hj] at HCK
  have HE : Hid (lgE g L G Xs e = 1) := Lib.hid (by unfold lgE; rw [hj]; rfl)
  clear hj
  go_enter Tryz.func61, Tryz.ntmps61
  go_wp2_with (first
   | (clear HM1; refine wpList_load_is rfl 29 _ rfl (.pointer (some ⟨s0, 0, none⟩)) rfl GV (HLG.out _ HBC.out) ?_)
   | (go_at_call 94; refine (HCK.out _ HBC.out).mono ?_; rintro r w3 ⟨⟨a9, b9, rfl, hab⟩, hb⟩; have hB3 := Lib.hid (HBC.out.trans (hb.mono HBC.out.size)); clear hb HBC; have HBC := hB3; clear hB3; have hb1 : (b9 != 0) = true := bne_iff_ne.2 fun h0 => absurd (hab.1 h0) (by decide); clear hab; have C20 := HC20.out _ HBC.out))
  go_ret
  exact ⟨by rw [HE.out]; first | rfl | simp, by have h9 := HBW.out _ HBC.out; first | exact h9 | (rw [← HS0.out]; exact h9)⟩
 ·rw [hj] at HCK
  by_cases h1 : e < 0
  ·have d1 : decide (e < 0) = true := decide_eq_true h1
   have HE : Hid (lgE g L G Xs e = 2) := Lib.hid (by unfold lgE; rw [hj, if_pos rfl, if_neg (by omega)])
   clear hj h1
   go_enter Tryz.func61, Tryz.ntmps61
   go_wp2_with (first
    | (clear HM1; refine wpList_load_is rfl 29 _ rfl (.pointer (some ⟨s0, 0, none⟩)) rfl GV (HLG.out _ HBC.out) ?_)
    | (go_at_call 94; refine (HCK.out _ HBC.out).mono ?_; rintro r w3 ⟨⟨a9, b9, rfl, hab⟩, hb⟩; have hB3 := Lib.hid (HBC.out.trans (hb.mono HBC.out.size)); clear hb HBC; have HBC := hB3; clear hB3; obtain rfl := hab.2 rfl; clear hab; have C20 := HC20.out _ HBC.out))
   go_ret
   exact ⟨by rw [HE.out]; first | rfl | simp, by have h9 := HBW.out _ HBC.out; first | exact h9 | (rw [← HS0.out]; exact h9)⟩
  ·have d1 : decide (e < 0) = false := decide_eq_false h1
   by_cases h2 : (g.m : Int) ≤ e
   ·have d2 : decide (e ≥ (g.m : Int)) = true := decide_eq_true h2
    have d3 : decide ((g.m : Int) ≤ e) = true := decide_eq_true h2
    have HE : Hid (lgE g L G Xs e = 2) := Lib.hid (by unfold lgE; rw [hj, if_pos rfl, if_neg (by omega)])
    clear hj h1 h2
    go_enter Tryz.func61, Tryz.ntmps61
    go_wp2_with (first
     | (clear HM1; refine wpList_load_is rfl 29 _ rfl (.pointer (some ⟨s0, 0, none⟩)) rfl GV (HLG.out _ HBC.out) ?_)
     | (go_at_call 94; refine (HCK.out _ HBC.out).mono ?_; rintro r w3 ⟨⟨a9, b9, rfl, hab⟩, hb⟩; have hB3 := Lib.hid (HBC.out.trans (hb.mono HBC.out.size)); clear hb HBC; have HBC := hB3; clear hB3; obtain rfl := hab.2 rfl; clear hab; have C20 := HC20.out _ HBC.out))
    go_ret
    exact ⟨by rw [HE.out]; first | rfl | simp, by have h9 := HBW.out _ HBC.out; first | exact h9 | (rw [← HS0.out]; exact h9)⟩
   ·have d2 : decide (e ≥ (g.m : Int)) = false := decide_eq_false h2
    have d3 : decide ((g.m : Int) ≤ e) = false := decide_eq_false h2
    have HE : Hid (lgE g L G Xs e = 0) := Lib.hid (by unfold lgE; rw [hj, if_pos rfl, if_pos (by omega)])
    clear hj h1 h2
    go_enter Tryz.func61, Tryz.ntmps61
    go_wp2_with (first
     | (clear HM1; refine wpList_load_is rfl 29 _ rfl (.pointer (some ⟨s0, 0, none⟩)) rfl GV (HLG.out _ HBC.out) ?_)
     | (go_at_call 94; refine (HCK.out _ HBC.out).mono ?_; rintro r w3 ⟨⟨a9, b9, rfl, hab⟩, hb⟩; have hB3 := Lib.hid (HBC.out.trans (hb.mono HBC.out.size)); clear hb HBC; have HBC := hB3; clear hB3; obtain rfl := hab.2 rfl; clear hab; have C20 := HC20.out _ HBC.out))
    go_ret
    exact ⟨by rw [HE.out]; first | rfl | simp, by have h9 := HBW.out _ HBC.out; first | exact h9 | (rw [← HS0.out]; exact h9)⟩
set_option maxRecDepth 100000 in
set_option maxHeartbeats 6400000 in
theorem r14check_any (g : Grp) (L : List Acc) (G : List Ent) (A : Option Addr) (c : Nat) (Xs : List Etl) (e : Int) (w : World) (h : LgX w g L G A c Xs) :
  Calls Tryz.prog 71 #[grpV g, .slice A Xs.length c, .int .i64 e] w fun r w' => r = .returned (.int .i64 (lgE g L G Xs e)) ∧ Below w.heap.size w w' := by
 obtain ⟨GV, hGV⟩ : ∃ GV, GV = grpV g := ⟨_, rfl⟩
 obtain ⟨gs, hgs⟩ : ∃ gs, (grpC g).toArray = gs := ⟨_, rfl⟩
 obtain ⟨s0, hs0⟩ : ∃ s0, w.heap.size = s0 := ⟨_, rfl⟩
 obtain ⟨w2, hw2⟩ : ∃ w2, w.alloc (.cells gs 29) = w2 := ⟨_, rfl⟩
 have HGB : Hid (Wh 29 w2 s0 (grpC g)) := Lib.hid (by rw [← hw2, ← hgs, ← hs0]; exact Wh.new w _ _)
 have HB2 : Hid (Below w.heap.size w w2) := Lib.hid (by rw [← hw2]; exact below_alloc_new _)
 have HS0 := Lib.hid hs0
 have HLG : Hid (∀ W, Below w2.heap.size w2 W → (Instr.loadAt 29 (.pointer (some ⟨s0, 0, none⟩))).run Tryz.prog W = .ok GV W) := Lib.hid (fun W h => by rw [hGV, grpV_is]; exact (HGB.out.up h).rg.load 0 29 (grpC g) rfl _ Tryz.underlying29 rfl (by kernel_rfl))
 have HBC : Hid (Below w2.heap.size w2 w2) := Lib.hid (Below.refl _ _)
 have HBW : Hid (∀ W, Below w2.heap.size w2 W → Below w.heap.size w W) := Lib.hid (fun W h => HB2.out.trans (h.mono HB2.out.size))
 have HCK := Lib.hid (fun W (hb : Below w2.heap.size w2 W) => r12valid_any g L G A c Xs W ((h.up HB2.out).up hb).hk h.hs h.hw ((h.up HB2.out).up hb).hz ((h.up HB2.out).up hb).hzs h.hl h.hxs h.hc)
 have hGS : GV = .agg gs := by rw [hGV, grpV_is, hgs]
 rw [← hGV] at HCK ⊢
 rw [hGS]
 clear hGS hGV
 have HC20 : Hid (∀ W, Below w2.heap.size w2 W → W.cell? ⟨s0, 20, none⟩ = some (.slice g.E g.m g.d)) := Lib.hid (fun W hb => (HGB.out.up hb).at 20 _ rfl)
 have HM1 : True := trivial
 clear hgs h
 obtain ⟨n, hn⟩ : ∃ n, Xs.length = n := ⟨_, rfl⟩
 rw [hn] at HCK ⊢
 clear hn
 cases hj : jrnB g L G Xs
 ·rw [hj] at HCK
  have HE : Hid (lgE g L G Xs e = 1) := Lib.hid (by unfold lgE; rw [hj]; rfl)
  clear hj
  go_enter Tryz.func71, Tryz.ntmps71
  go_wp2_with (first
   | (clear HM1; refine wpList_load_is rfl 29 _ rfl (.pointer (some ⟨s0, 0, none⟩)) rfl GV (HLG.out _ HBC.out) ?_)
   | (go_at_call 100; refine (HCK.out _ HBC.out).mono ?_; rintro r w3 ⟨rfl, hb⟩; have hB3 := Lib.hid (HBC.out.trans (hb.mono HBC.out.size)); clear hb HBC; have HBC := hB3; clear hB3; have C20 := HC20.out _ HBC.out))
  go_ret
  exact ⟨by rw [HE.out]; first | rfl | simp, by have h9 := HBW.out _ HBC.out; first | exact h9 | (rw [← HS0.out]; exact h9)⟩
 ·rw [hj] at HCK
  by_cases h1 : e < 0
  ·have d1 : decide (e < 0) = true := decide_eq_true h1
   have HE : Hid (lgE g L G Xs e = 2) := Lib.hid (by unfold lgE; rw [hj, if_pos rfl, if_neg (by omega)])
   clear hj h1
   go_enter Tryz.func71, Tryz.ntmps71
   go_wp2_with (first
    | (clear HM1; refine wpList_load_is rfl 29 _ rfl (.pointer (some ⟨s0, 0, none⟩)) rfl GV (HLG.out _ HBC.out) ?_)
    | (go_at_call 100; refine (HCK.out _ HBC.out).mono ?_; rintro r w3 ⟨rfl, hb⟩; have hB3 := Lib.hid (HBC.out.trans (hb.mono HBC.out.size)); clear hb HBC; have HBC := hB3; clear hB3; have C20 := HC20.out _ HBC.out))
   go_ret
   exact ⟨by rw [HE.out]; first | rfl | simp, by have h9 := HBW.out _ HBC.out; first | exact h9 | (rw [← HS0.out]; exact h9)⟩
  ·have d1 : decide (e < 0) = false := decide_eq_false h1
   by_cases h2 : (g.m : Int) ≤ e
   ·have d2 : decide (e ≥ (g.m : Int)) = true := decide_eq_true h2
    have d3 : decide ((g.m : Int) ≤ e) = true := decide_eq_true h2
    have HE : Hid (lgE g L G Xs e = 2) := Lib.hid (by unfold lgE; rw [hj, if_pos rfl, if_neg (by omega)])
    clear hj h1 h2
    go_enter Tryz.func71, Tryz.ntmps71
    go_wp2_with (first
     | (clear HM1; refine wpList_load_is rfl 29 _ rfl (.pointer (some ⟨s0, 0, none⟩)) rfl GV (HLG.out _ HBC.out) ?_)
     | (go_at_call 100; refine (HCK.out _ HBC.out).mono ?_; rintro r w3 ⟨rfl, hb⟩; have hB3 := Lib.hid (HBC.out.trans (hb.mono HBC.out.size)); clear hb HBC; have HBC := hB3; clear hB3; have C20 := HC20.out _ HBC.out))
    go_ret
    exact ⟨by rw [HE.out]; first | rfl | simp, by have h9 := HBW.out _ HBC.out; first | exact h9 | (rw [← HS0.out]; exact h9)⟩
   ·have d2 : decide (e ≥ (g.m : Int)) = false := decide_eq_false h2
    have d3 : decide ((g.m : Int) ≤ e) = false := decide_eq_false h2
    have HE : Hid (lgE g L G Xs e = 0) := Lib.hid (by unfold lgE; rw [hj, if_pos rfl, if_pos (by omega)])
    clear hj h1 h2
    go_enter Tryz.func71, Tryz.ntmps71
    go_wp2_with (first
     | (clear HM1; refine wpList_load_is rfl 29 _ rfl (.pointer (some ⟨s0, 0, none⟩)) rfl GV (HLG.out _ HBC.out) ?_)
     | (go_at_call 100; refine (HCK.out _ HBC.out).mono ?_; rintro r w3 ⟨rfl, hb⟩; have hB3 := Lib.hid (HBC.out.trans (hb.mono HBC.out.size)); clear hb HBC; have HBC := hB3; clear hB3; have C20 := HC20.out _ HBC.out))
    go_ret
    exact ⟨by rw [HE.out]; first | rfl | simp, by have h9 := HBW.out _ HBC.out; first | exact h9 | (rw [← HS0.out]; exact h9)⟩
set_option maxRecDepth 100000 in
set_option maxHeartbeats 6400000 in
theorem lca_any (g : Grp) (L : List Acc) (G : List Ent) (e a : Int) (w : World) (hk : GrK w g L G) (hs : Sm g G) (he : 0 ≤ e ∧ e < (g.m : Int)) :
  Calls Tryz.prog 62 #[grpV g, .int .i64 e, .int .i64 a] w fun r w' => r = .returned (.int .i64 (acE G e a)) ∧ Below w.heap.size w w' := by
 obtain ⟨j, hj⟩ : ∃ j : Nat, e = (j : Int) := ⟨e.toNat, by omega⟩
 subst hj
 have hjm : j < g.m := by omega
 have hae : acE G (j : Int) a = if (fnd (G.getD j ent0).L a).isSome = true then 0 else 17 := by unfold acE; rw [Int.toNat_natCast]
 rw [hae]
 clear hae
 obtain ⟨gs, hgs⟩ : ∃ gs, (grpC g).toArray = gs := ⟨_, rfl⟩
 rw [show grpV g = .agg gs by rw [grpV_is, hgs]]
 obtain ⟨s0, hs0⟩ : ∃ s0, w.heap.size = s0 := ⟨_, rfl⟩
 obtain ⟨w2, hw2⟩ : ∃ w2, w.alloc (.cells gs 29) = w2 := ⟨_, rfl⟩
 have hgb : Wh 29 w2 s0 (grpC g) := by rw [← hw2, ← hgs, ← hs0]; exact Wh.new w _ _
 have c20 := hgb.at 20 _ rfl
 have HB2 : Hid (Below w.heap.size w w2) := Lib.hid (by rw [← hw2]; exact below_alloc_new _)
 have HS0 := Lib.hid hs0
 have hjG : j < G.length := by rw [hk.lg]; exact hjm
 obtain ⟨eb, eoff, hE, hew, he5⟩ := ent_at (hk.up HB2.out).he hjG
 have hmem : G.getD j ent0 ∈ G := getD_mem_acc hjG
 have hek := ((hk.up HB2.out).hk _ hmem)
 have hen := (hs.e _ hmem).1
 generalize G.getD j ent0 = ey at *
 have f2 := he5.c2
 have HF := Lib.hid (fun W (h : AccAt W ey.A ey.L) => cfind_any ey.A ey.c ey.L a W h (by rw [hek.ln]; omega))
 rw [hek.ln] at HF
 have HEZ := Lib.hid hek.hz
 have hjz : (j : Int) < (g.m : Int) := by omega
 have hj0 : (0 : Int) ≤ (j : Int) := by omega
 rw [hE] at c20
 clear hgb he5 hek hen hmem he hk hs hgs hE hew
 obtain ⟨ob, hob⟩ : ∃ ob, (fnd ey.L a).isSome = ob := ⟨_, rfl⟩
 obtain ⟨fa, hfa⟩ : ∃ fa, fndA ey.L a = fa := ⟨_, rfl⟩
 rw [hob, hfa] at HF
 rw [hob]
 clear hob hfa
 go_enter Tryz.func62, Tryz.ntmps62
 cases ob
 ·go_wp2_with (go_at_call 95; refine (HF.out _ HEZ.out).mono ?_; rintro r w3 ⟨rfl, hb⟩; have HB3 := Lib.hid hb; clear hb)
  go_ret
  exact ⟨by first | rfl | simp, by have h8 := HB2.out.trans (HB3.out.mono HB2.out.size); first | exact below_new h8 _ | (rw [← HS0.out]; exact below_new h8 _)⟩
 ·go_wp2_with (go_at_call 95; refine (HF.out _ HEZ.out).mono ?_; rintro r w3 ⟨rfl, hb⟩; have HB3 := Lib.hid hb; clear hb)
  go_ret
  exact ⟨by first | rfl | simp, by have h8 := HB2.out.trans (HB3.out.mono HB2.out.size); first | exact below_new h8 _ | (rw [← HS0.out]; exact below_new h8 _)⟩
def lbN (g : Grp) (L : List Acc) (G : List Ent) (Xs : List Etl) (e a hi : Int) : Int := if knE g L G Xs e a = 0 then wr (balS Xs e a hi) else 0
set_option maxRecDepth 100000 in
set_option maxHeartbeats 6400000 in
theorem r14known_any (g : Grp) (L : List Acc) (G : List Ent) (A : Option Addr) (c : Nat) (Xs : List Etl) (e a : Int) (w : World) (h : LgX w g L G A c Xs) :
  Calls Tryz.prog 64 #[grpV g, .slice A Xs.length c, .int .i64 e, .int .i64 a] w fun r w' => r = .returned (.int .i64 (knE g L G Xs e a)) ∧ Below w.heap.size w w' := by
 obtain ⟨GV, hGV⟩ : ∃ GV, GV = grpV g := ⟨_, rfl⟩
 obtain ⟨gs, hgs⟩ : ∃ gs, (grpC g).toArray = gs := ⟨_, rfl⟩
 obtain ⟨s0, hs0⟩ : ∃ s0, w.heap.size = s0 := ⟨_, rfl⟩
 obtain ⟨w2, hw2⟩ : ∃ w2, w.alloc (.cells gs 29) = w2 := ⟨_, rfl⟩
 have HGB : Hid (Wh 29 w2 s0 (grpC g)) := Lib.hid (by rw [← hw2, ← hgs, ← hs0]; exact Wh.new w _ _)
 have HB2 : Hid (Below w.heap.size w w2) := Lib.hid (by rw [← hw2]; exact below_alloc_new _)
 have HS0 := Lib.hid hs0
 have HLG : Hid (∀ W, Below w2.heap.size w2 W → (Instr.loadAt 29 (.pointer (some ⟨s0, 0, none⟩))).run Tryz.prog W = .ok GV W) := Lib.hid (fun W h => by rw [hGV, grpV_is]; exact (HGB.out.up h).rg.load 0 29 (grpC g) rfl _ Tryz.underlying29 rfl (by kernel_rfl))
 have HBC : Hid (Below w2.heap.size w2 w2) := Lib.hid (Below.refl _ _)
 have HBW : Hid (∀ W, Below w2.heap.size w2 W → Below w.heap.size w W) := Lib.hid (fun W h => HB2.out.trans (h.mono HB2.out.size))
 have HCE := Lib.hid (fun W (hb : Below w2.heap.size w2 W) => r14check_any g L G A c Xs e W ((h.up HB2.out).up hb))
 have hGS : GV = .agg gs := by rw [hGV, grpV_is, hgs]
 rw [← hGV] at HCE ⊢
 rw [hGS]
 clear hGS hGV
 have HM1 : True := trivial
 have HC20 : Hid (∀ W, Below w2.heap.size w2 W → W.cell? ⟨s0, 20, none⟩ = some (.slice g.E g.m g.d)) := Lib.hid (fun W hb => (HGB.out.up hb).at 20 _ rfl)
 obtain ⟨n, hn⟩ : ∃ n, Xs.length = n := ⟨_, rfl⟩
 rw [hn] at HCE ⊢
 clear hgs hn
 obtain ⟨E, hE⟩ : ∃ E, lgE g L G Xs e = E := ⟨_, rfl⟩
 rw [hE] at HCE
 by_cases hE0 : E = 0
 ·obtain ⟨-, he0, he1⟩ := lgE_zero (hE.trans hE0)
  obtain ⟨j, hj⟩ : ∃ j : Nat, e = (j : Int) := ⟨e.toNat, by omega⟩
  subst hj
  have hjm : j < g.m := by omega
  have HKE : Hid (knE g L G Xs (j : Int) a = if (fnd (G.getD j ent0).L a).isSome = true then 0 else 17) := Lib.hid (by unfold knE; rw [hE, if_pos hE0]; unfold acE; rw [Int.toNat_natCast])
  have z1 : (E != 0) = false := by simp [hE0]
  have hjG : j < G.length := by rw [h.hk.lg]; exact hjm
  obtain ⟨eb, eoff, hEE, hew, he5⟩ := ent_at (h.up HB2.out).hk.he hjG
  have hmem : G.getD j ent0 ∈ G := getD_mem_acc hjG
  have hek := ((h.up HB2.out).hk.hk _ hmem)
  have hen := (h.hs.e _ hmem).1
  generalize G.getD j ent0 = ey at *
  have HF2 : Hid (∀ W, Below w2.heap.size w2 W → W.cell? ⟨eb, eoff + j * 5 + 2, none⟩ = some (.slice ey.A ey.n ey.c)) := Lib.hid (fun W hb => (hb.cell (p := ⟨eb, eoff + j * 5 + 2, none⟩) hew).trans he5.c2)
  have HF := Lib.hid (fun W (h : AccAt W ey.A ey.L) => rfind_any ey.A ey.c ey.L a W h (by rw [hek.ln]; omega))
  rw [hek.ln] at HF
  have HEZ := Lib.hid hek.hz
  have hjz : (j : Int) < (g.m : Int) := by omega
  have hj0 : (0 : Int) ≤ (j : Int) := by omega
  rw [hEE] at HC20
  clear he5 hek hen hmem hEE hew he0 he1 hE h hjG
  obtain ⟨ob, hob⟩ : ∃ ob, (fnd ey.L a).isSome = ob := ⟨_, rfl⟩
  obtain ⟨fa, hfa⟩ : ∃ fa, fndA ey.L a = fa := ⟨_, rfl⟩
  rw [hob, hfa] at HF
  rw [hob] at HKE
  clear hob hfa
  subst hE0
  go_enter Tryz.func64, Tryz.ntmps64
  cases ob
  ·go_wp2_with (first
    | (clear HM1; refine wpList_load_is rfl 29 _ rfl (.pointer (some ⟨s0, 0, none⟩)) rfl GV (HLG.out _ HBC.out) ?_)
    | (go_at_call 71; refine (HCE.out _ HBC.out).mono ?_; rintro r w3 ⟨rfl, hb⟩; have hB3 := Lib.hid (HBC.out.trans (hb.mono HBC.out.size)); clear hb HBC; have HBC := hB3; clear hB3; have C20 := HC20.out _ HBC.out; have F2 := HF2.out _ HBC.out)
    | (go_at_call 72; refine (HF.out _ (HEZ.out.up HBC.out)).mono ?_; rintro r w3 ⟨rfl, hb⟩; have hB3 := Lib.hid (HBC.out.trans (hb.mono HBC.out.size)); clear hb HBC; have HBC := hB3; clear hB3))
   go_ret
   exact ⟨by rw [HKE.out]; first | rfl | simp, by have h8 := HBW.out _ HBC.out; first | exact below_new h8 _ | (rw [← HS0.out]; exact below_new h8 _)⟩
  ·go_wp2_with (first
    | (clear HM1; refine wpList_load_is rfl 29 _ rfl (.pointer (some ⟨s0, 0, none⟩)) rfl GV (HLG.out _ HBC.out) ?_)
    | (go_at_call 71; refine (HCE.out _ HBC.out).mono ?_; rintro r w3 ⟨rfl, hb⟩; have hB3 := Lib.hid (HBC.out.trans (hb.mono HBC.out.size)); clear hb HBC; have HBC := hB3; clear hB3; have C20 := HC20.out _ HBC.out; have F2 := HF2.out _ HBC.out)
    | (go_at_call 72; refine (HF.out _ (HEZ.out.up HBC.out)).mono ?_; rintro r w3 ⟨rfl, hb⟩; have hB3 := Lib.hid (HBC.out.trans (hb.mono HBC.out.size)); clear hb HBC; have HBC := hB3; clear hB3))
   go_ret
   exact ⟨by rw [HKE.out]; first | rfl | simp, by have h8 := HBW.out _ HBC.out; first | exact below_new h8 _ | (rw [← HS0.out]; exact below_new h8 _)⟩
 ·have z1 : (E != 0) = true := by simp [hE0]
  have HKE : Hid (knE g L G Xs e a = E) := Lib.hid (by unfold knE; rw [hE, if_neg hE0])
  clear hE hE0 h
  go_enter Tryz.func64, Tryz.ntmps64
  go_wp2_with (first
   | (clear HM1; refine wpList_load_is rfl 29 _ rfl (.pointer (some ⟨s0, 0, none⟩)) rfl GV (HLG.out _ HBC.out) ?_)
   | (go_at_call 71; refine (HCE.out _ HBC.out).mono ?_; rintro r w3 ⟨rfl, hb⟩; have hB3 := Lib.hid (HBC.out.trans (hb.mono HBC.out.size)); clear hb HBC; have HBC := hB3; clear hB3))
  go_ret
  exact ⟨by rw [HKE.out]; first | rfl | simp, by have h9 := HBW.out _ HBC.out; first | exact h9 | (rw [← HS0.out]; exact h9)⟩
set_option maxRecDepth 100000 in
set_option maxHeartbeats 6400000 in
theorem lbalance_any (g : Grp) (L : List Acc) (G : List Ent) (A : Option Addr) (c : Nat) (Xs : List Etl) (e a hi : Int) (w : World) (h : LgX w g L G A c Xs) :
  Calls Tryz.prog 30 #[grpV g, .slice A Xs.length c, .int .i64 e, .int .i64 a, .int .i64 hi] w fun r w' => r = .returned (.tuple #[.int .i64 (lbN g L G Xs e a hi), .int .i64 (knE g L G Xs e a)]) ∧ Below w.heap.size w w' := by
 obtain ⟨GV, hGV⟩ : ∃ GV, GV = grpV g := ⟨_, rfl⟩
 obtain ⟨gs, hgs⟩ : ∃ gs, (grpC g).toArray = gs := ⟨_, rfl⟩
 obtain ⟨s0, hs0⟩ : ∃ s0, w.heap.size = s0 := ⟨_, rfl⟩
 obtain ⟨w2, hw2⟩ : ∃ w2, w.alloc (.cells gs 29) = w2 := ⟨_, rfl⟩
 have HGB : Hid (Wh 29 w2 s0 (grpC g)) := Lib.hid (by rw [← hw2, ← hgs, ← hs0]; exact Wh.new w _ _)
 have HB2 : Hid (Below w.heap.size w w2) := Lib.hid (by rw [← hw2]; exact below_alloc_new _)
 have HS0 := Lib.hid hs0
 have HLG : Hid (∀ W, Below w2.heap.size w2 W → (Instr.loadAt 29 (.pointer (some ⟨s0, 0, none⟩))).run Tryz.prog W = .ok GV W) := Lib.hid (fun W h => by rw [hGV, grpV_is]; exact (HGB.out.up h).rg.load 0 29 (grpC g) rfl _ Tryz.underlying29 rfl (by kernel_rfl))
 have HBC : Hid (Below w2.heap.size w2 w2) := Lib.hid (Below.refl _ _)
 have HBW : Hid (∀ W, Below w2.heap.size w2 W → Below w.heap.size w W) := Lib.hid (fun W h => HB2.out.trans (h.mono HB2.out.size))
 have HCE := Lib.hid (fun W (hb : Below w2.heap.size w2 W) => lce_any g L G A c Xs e W ((h.up HB2.out).up hb))
 have HCA := Lib.hid (fun W (hb : Below w2.heap.size w2 W) (he : 0 ≤ e ∧ e < (g.m : Int)) => lca_any g L G e a W ((h.up HB2.out).up hb).hk h.hs he)
 have HBA := Lib.hid (fun W (hb : Below w2.heap.size w2 W) => lbal_any A c Xs e a hi W ((h.up HB2.out).up hb).hz ((h.up HB2.out).up hb).hzs h.zn h.l5)
 have hGS : GV = .agg gs := by rw [hGV, grpV_is, hgs]
 rw [← hGV] at HCE HCA ⊢
 rw [hGS]
 clear hGS hGV
 have HM1 : True := trivial
 have HM2 : True := trivial
 obtain ⟨n, hn⟩ : ∃ n, Xs.length = n := ⟨_, rfl⟩
 rw [hn] at HCE HBA ⊢
 clear hgs hn h
 obtain ⟨E, hE⟩ : ∃ E, lgE g L G Xs e = E := ⟨_, rfl⟩
 rw [hE] at HCE
 by_cases hE0 : E = 0
 ·obtain ⟨-, he0, he1⟩ := lgE_zero (hE.trans hE0)
  obtain ⟨F, hF⟩ : ∃ F, acE G e a = F := ⟨_, rfl⟩
  have HCB := Lib.hid (fun W hb => HCA.out W hb ⟨he0, he1⟩)
  rw [hF] at HCB
  have HKE : Hid (knE g L G Xs e a = F) := Lib.hid (by unfold knE; rw [hE, if_pos hE0, hF])
  have z1 : (E != 0) = false := by simp [hE0]
  subst hE0
  clear HCA he0 he1
  by_cases hF0 : F = 0
  ·have z2 : (F != 0) = false := by simp [hF0]
   have HLB : Hid (lbN g L G Xs e a hi = wrap64 (balS Xs e a hi)) := Lib.hid (by unfold lbN; rw [HKE.out, if_pos hF0])
   subst hF0
   clear hE hF
   go_enter Tryz.func30, Tryz.ntmps30
   go_wp2_with (first
    | (clear HM1; refine wpList_load_is rfl 29 _ rfl (.pointer (some ⟨s0, 0, none⟩)) rfl GV (HLG.out _ HBC.out) ?_)
    | (clear HM2; refine wpList_load_is rfl 29 _ rfl (.pointer (some ⟨s0, 0, none⟩)) rfl GV (HLG.out _ HBC.out) ?_)
    | (go_at_call 61; refine (HCE.out _ HBC.out).mono ?_; rintro r w3 ⟨rfl, hb⟩; have hB3 := Lib.hid (HBC.out.trans (hb.mono HBC.out.size)); clear hb HBC; have HBC := hB3; clear hB3)
    | (go_at_call 62; refine (HCB.out _ HBC.out).mono ?_; rintro r w3 ⟨rfl, hb⟩; have hB3 := Lib.hid (HBC.out.trans (hb.mono HBC.out.size)); clear hb HBC; have HBC := hB3; clear hB3)
    | (go_at_call 63; refine (HBA.out _ HBC.out).mono ?_; rintro r w3 ⟨rfl, hb⟩; have hB3 := Lib.hid (HBC.out.trans (hb.mono HBC.out.size)); clear hb HBC; have HBC := hB3; clear hB3))
   go_ret2
   exact ⟨by rw [HLB.out, HKE.out]; first | rfl | simp, by have h9 := HBW.out _ HBC.out; first | exact h9 | (rw [← HS0.out]; exact h9)⟩
  ·have z2 : (F != 0) = true := by simp [hF0]
   have HLB : Hid (lbN g L G Xs e a hi = 0) := Lib.hid (by unfold lbN; rw [HKE.out, if_neg hF0])
   clear hE hF hF0
   go_enter Tryz.func30, Tryz.ntmps30
   go_wp2_with (first
    | (clear HM1; refine wpList_load_is rfl 29 _ rfl (.pointer (some ⟨s0, 0, none⟩)) rfl GV (HLG.out _ HBC.out) ?_)
    | (clear HM2; refine wpList_load_is rfl 29 _ rfl (.pointer (some ⟨s0, 0, none⟩)) rfl GV (HLG.out _ HBC.out) ?_)
    | (go_at_call 61; refine (HCE.out _ HBC.out).mono ?_; rintro r w3 ⟨rfl, hb⟩; have hB3 := Lib.hid (HBC.out.trans (hb.mono HBC.out.size)); clear hb HBC; have HBC := hB3; clear hB3)
    | (go_at_call 62; refine (HCB.out _ HBC.out).mono ?_; rintro r w3 ⟨rfl, hb⟩; have hB3 := Lib.hid (HBC.out.trans (hb.mono HBC.out.size)); clear hb HBC; have HBC := hB3; clear hB3)
    | (go_at_call 63; refine (HBA.out _ HBC.out).mono ?_; rintro r w3 ⟨rfl, hb⟩; have hB3 := Lib.hid (HBC.out.trans (hb.mono HBC.out.size)); clear hb HBC; have HBC := hB3; clear hB3))
   go_ret2
   exact ⟨by rw [HLB.out, HKE.out]; first | rfl | simp, by have h9 := HBW.out _ HBC.out; first | exact h9 | (rw [← HS0.out]; exact h9)⟩
 ·have z1 : (E != 0) = true := by simp [hE0]
  have HKE : Hid (knE g L G Xs e a = E) := Lib.hid (by unfold knE; rw [hE, if_neg hE0])
  have HLB : Hid (lbN g L G Xs e a hi = 0) := Lib.hid (by unfold lbN; rw [HKE.out, if_neg hE0])
  clear hE hE0 HCA
  go_enter Tryz.func30, Tryz.ntmps30
  go_wp2_with (first
   | (clear HM1; refine wpList_load_is rfl 29 _ rfl (.pointer (some ⟨s0, 0, none⟩)) rfl GV (HLG.out _ HBC.out) ?_)
   | (go_at_call 61; refine (HCE.out _ HBC.out).mono ?_; rintro r w3 ⟨rfl, hb⟩; have hB3 := Lib.hid (HBC.out.trans (hb.mono HBC.out.size)); clear hb HBC; have HBC := hB3; clear hB3))
  go_ret2
  exact ⟨by rw [HLB.out, HKE.out]; first | rfl | simp, by have h9 := HBW.out _ HBC.out; first | exact h9 | (rw [← HS0.out]; exact h9)⟩
set_option maxRecDepth 100000 in
set_option maxHeartbeats 6400000 in
theorem r14balance_any (g : Grp) (L : List Acc) (G : List Ent) (A : Option Addr) (c : Nat) (Xs : List Etl) (e a hi : Int) (w : World) (h : LgX w g L G A c Xs) (hlo : ∀ p ∈ Xs, -9223372036854775808 ≤ p.1.day) :
  Calls Tryz.prog 31 #[grpV g, .slice A Xs.length c, .int .i64 e, .int .i64 a, .int .i64 hi] w fun r w' => r = .returned (.tuple #[.int .i64 (lbN g L G Xs e a hi), .int .i64 (knE g L G Xs e a)]) ∧ Below w.heap.size w w' := by
 obtain ⟨GV, hGV⟩ : ∃ GV, GV = grpV g := ⟨_, rfl⟩
 obtain ⟨gs, hgs⟩ : ∃ gs, (grpC g).toArray = gs := ⟨_, rfl⟩
 obtain ⟨s0, hs0⟩ : ∃ s0, w.heap.size = s0 := ⟨_, rfl⟩
 obtain ⟨w2, hw2⟩ : ∃ w2, w.alloc (.cells gs 29) = w2 := ⟨_, rfl⟩
 have HGB : Hid (Wh 29 w2 s0 (grpC g)) := Lib.hid (by rw [← hw2, ← hgs, ← hs0]; exact Wh.new w _ _)
 have HB2 : Hid (Below w.heap.size w w2) := Lib.hid (by rw [← hw2]; exact below_alloc_new _)
 have HS0 := Lib.hid hs0
 have HLG : Hid (∀ W, Below w2.heap.size w2 W → (Instr.loadAt 29 (.pointer (some ⟨s0, 0, none⟩))).run Tryz.prog W = .ok GV W) := Lib.hid (fun W h => by rw [hGV, grpV_is]; exact (HGB.out.up h).rg.load 0 29 (grpC g) rfl _ Tryz.underlying29 rfl (by kernel_rfl))
 have HBC : Hid (Below w2.heap.size w2 w2) := Lib.hid (Below.refl _ _)
 have HBW : Hid (∀ W, Below w2.heap.size w2 W → Below w.heap.size w W) := Lib.hid (fun W h => HB2.out.trans (h.mono HB2.out.size))
 have HCE := Lib.hid (fun W (hb : Below w2.heap.size w2 W) => r14known_any g L G A c Xs e a W ((h.up HB2.out).up hb))
 have HBA := Lib.hid (fun W (hb : Below w2.heap.size w2 W) => rsums14_any A c Xs e a (-9223372036854775808) hi W ((h.up HB2.out).up hb).hz ((h.up HB2.out).up hb).hzs h.zn h.l5)
 have hGS : GV = .agg gs := by rw [hGV, grpV_is, hgs]
 rw [← hGV] at HCE ⊢
 rw [hGS]
 clear hGS hGV
 have HM1 : True := trivial
 have HSP := Lib.hid (bal_split (Xs := Xs) (e := e) (a := a) (hi := hi) hlo)
 obtain ⟨n, hn⟩ : ∃ n, Xs.length = n := ⟨_, rfl⟩
 rw [hn] at HCE HBA ⊢
 clear hgs hn h
 obtain ⟨F, hF⟩ : ∃ F, knE g L G Xs e a = F := ⟨_, rfl⟩
 rw [hF] at HCE ⊢
 obtain ⟨DV, hDV⟩ : ∃ DV, wr (dbtS Xs e a (-9223372036854775808) hi) = DV := ⟨_, rfl⟩
 obtain ⟨CV, hCV⟩ : ∃ CV, wr (cdtS Xs e a (-9223372036854775808) hi) = CV := ⟨_, rfl⟩
 rw [hDV, hCV] at HBA
 have HDC : Hid (wrap64 (DV + CV) = wrap64 (balS Xs e a hi)) := Lib.hid (by rw [← hDV, ← hCV]; exact (wr_add _ _).trans ((wr_add2 _ _).trans (congrArg wrap64 HSP.out)))
 by_cases hF0 : F = 0
 ·have z2 : (F != 0) = false := by simp [hF0]
  have HLB : Hid (lbN g L G Xs e a hi = wrap64 (balS Xs e a hi)) := Lib.hid (by unfold lbN; rw [hF, if_pos hF0])
  subst hF0
  clear hF hDV hCV
  go_enter Tryz.func31, Tryz.ntmps31
  go_wp2_with (first
   | (clear HM1; refine wpList_load_is rfl 29 _ rfl (.pointer (some ⟨s0, 0, none⟩)) rfl GV (HLG.out _ HBC.out) ?_)
   | (go_at_call 64; refine (HCE.out _ HBC.out).mono ?_; rintro r w3 ⟨rfl, hb⟩; have hB3 := Lib.hid (HBC.out.trans (hb.mono HBC.out.size)); clear hb HBC; have HBC := hB3; clear hB3)
   | (go_at_call 65; refine (HBA.out _ HBC.out).mono ?_; rintro r w3 ⟨rfl, hb⟩; have hB3 := Lib.hid (HBC.out.trans (hb.mono HBC.out.size)); clear hb HBC; have HBC := hB3; clear hB3))
  go_ret2
  exact ⟨by rw [HLB.out, ← HDC.out]; first | rfl | simp, by have h9 := HBW.out _ HBC.out; first | exact h9 | (rw [← HS0.out]; exact h9)⟩
 ·have z2 : (F != 0) = true := by simp [hF0]
  have HLB : Hid (lbN g L G Xs e a hi = 0) := Lib.hid (by unfold lbN; rw [hF, if_neg hF0])
  clear hF hF0 hDV hCV
  go_enter Tryz.func31, Tryz.ntmps31
  go_wp2_with (first
   | (clear HM1; refine wpList_load_is rfl 29 _ rfl (.pointer (some ⟨s0, 0, none⟩)) rfl GV (HLG.out _ HBC.out) ?_)
   | (go_at_call 64; refine (HCE.out _ HBC.out).mono ?_; rintro r w3 ⟨rfl, hb⟩; have hB3 := Lib.hid (HBC.out.trans (hb.mono HBC.out.size)); clear hb HBC; have HBC := hB3; clear hB3))
  go_ret2
  exact ⟨by rw [HLB.out]; first | rfl | simp, by have h9 := HBW.out _ HBC.out; first | exact h9 | (rw [← HS0.out]; exact h9)⟩
theorem smp_sm (A : Option Addr) (c : Nat) (E : Option Addr) (p0 p1 p2 p3 : EAd) : Sm (smpG A c E) (smpEs p0 p1 p2 p3) := ⟨by show 26 ≤ 60; omega, by show 4 ≤ 14; omega, fun e he => by
 simp [smpEs] at he
 rcases he with rfl | rfl | rfl | rfl <;> exact ⟨by show 14 ≤ 60; omega, by show 14 ≤ 60; omega⟩⟩
theorem smp_w (A : Option Addr) (c : Nat) (E : Option Addr) (p0 p1 p2 p3 : EAd) : GrW (smpG A c E) smpL (smpEs p0 p1 p2 p3) := ⟨by show 3 ≤ maxLen; unfold maxLen; omega, (by
 have h : ((smpG A c E).R.all fun x => (Lit.int .i64 x).wf) = true := by kernel_rfl
 exact fun x hx => List.all_eq_true.1 h x hx), fun e he => by
 simp [smpEs] at he
 rcases he with rfl | rfl | rfl | rfl
 ·exact ⟨by show 6 ≤ maxLen; unfold maxLen; omega, by show 3 ≤ maxLen; unfold maxLen; omega⟩
 ·exact ⟨by show 5 ≤ maxLen; unfold maxLen; omega, by show 3 ≤ maxLen; unfold maxLen; omega⟩
 ·exact ⟨by show 4 ≤ maxLen; unfold maxLen; omega, by show 3 ≤ maxLen; unfold maxLen; omega⟩
 ·exact ⟨by show 5 ≤ maxLen; unfold maxLen; omega, by show 3 ≤ maxLen; unfold maxLen; omega⟩⟩
def awX : List Lnk := [⟨10, 100, -1⟩, ⟨100, -100, -1⟩]
def awE (lb : Nat) : Ety := ⟨1, 0, 20454, 1, 0, ⟨#[]⟩, some ⟨lb, 0, none⟩, 2, 2⟩
set_option maxRecDepth 100000 in
theorem aw_grp (A : Option Addr) (c : Nat) (E : Option Addr) (p0 p1 p2 p3 : EAd) : grpR (smpG A c E) smpL (smpEs p0 p1 p2 p3) = true := (grp_eq _ _ _).symm.trans (smp_ok A c E p0 p1 p2 p3)
set_option maxRecDepth 100000 in
theorem aw_ck (lb : Nat) (A : Option Addr) (c : Nat) (E : Option Addr) (p0 p1 p2 p3 : EAd) : ckE (smpG A c E) smpL (smpEs p0 p1 p2 p3) (awE lb, awX) = 0 := by
 unfold ckE
 rw [aw_grp]
 kernel_rfl
theorem aw_jrn (lb : Nat) (A : Option Addr) (c : Nat) (E : Option Addr) (p0 p1 p2 p3 : EAd) : jrnB (smpG A c E) smpL (smpEs p0 p1 p2 p3) [(awE lb, awX)] = true := by
 unfold jrnB
 rw [smp_ok, Bool.true_and, vldB_is]
 intro i hi
 obtain rfl : i = 0 := by simp at hi; omega
 rw [pst_at (p := (awE lb, awX)) rfl, aw_ck]
 kernel_rfl
theorem aw_lg (lb : Nat) (A : Option Addr) (c : Nat) (E : Option Addr) (p0 p1 p2 p3 : EAd) : lgE (smpG A c E) smpL (smpEs p0 p1 p2 p3) [(awE lb, awX)] 0 = 0 := by
 unfold lgE
 rw [aw_jrn, if_pos rfl]
 exact if_pos ⟨by omega, by show (0 : Int) < 4; omega⟩
set_option maxRecDepth 100000 in
theorem aw_kn (lb : Nat) (A : Option Addr) (c : Nat) (E : Option Addr) (p0 p1 p2 p3 : EAd) : knE (smpG A c E) smpL (smpEs p0 p1 p2 p3) [(awE lb, awX)] 0 100 = 0 := by
 unfold knE
 rw [aw_lg, if_pos rfl]
 kernel_rfl
set_option maxRecDepth 100000 in
theorem aw_lb (lb : Nat) (A : Option Addr) (c : Nat) (E : Option Addr) (p0 p1 p2 p3 : EAd) : lbN (smpG A c E) smpL (smpEs p0 p1 p2 p3) [(awE lb, awX)] 0 100 20454 = -100 := by
 unfold lbN
 rw [aw_kn, if_pos rfl]
 kernel_rfl
theorem aw_first : pdF 2026 1 36 0 = 20454 ∧ clE 2026 1 36 0 = 0 := ⟨by kernel_rfl, by kernel_rfl⟩
theorem aw_build (lb : Nat) (w : World) : (Instr.build 46 #[(0, .int .i64 1), (2, .int .i64 20454), (3, .int .i64 1), (6, .slice (some ⟨lb, 0, none⟩) 2 2)]).run Tryz.prog w = .ok (etyV (awE lb)) w := run_build w 46 _ _ (by kernel_rfl)
theorem aw_x (lb eb : Nat) (A : Option Addr) (c : Nat) (E : Option Addr) (p0 p1 p2 p3 : EAd) (W : World) (hk : GrK W (smpG A c E) smpL (smpEs p0 p1 p2 p3)) (h1 : Wh 59 W lb [.int .i64 10, .int .i64 100, .int .i64 (-1), .int .i64 100, .int .i64 (-100), .int .i64 (-1)]) (h2 : Wh 46 W eb (etyC (awE lb))) :
  LgX W (smpG A c E) smpL (smpEs p0 p1 p2 p3) (some ⟨eb, 0, none⟩) 1 [(awE lb, awX)] := by
 refine ⟨hk, smp_sm A c E p0 p1 p2 p3, smp_w A c E p0 p1 p2 p3, row_one (R := lyX) (x := awE lb) h2, fun p hp => ?_, by show 1 ≤ 100; decide, fun p hp => ?_, by show 1 ≤ 1; decide⟩
 ·rw [List.mem_singleton] at hp
  subst hp
  refine ⟨rfl, lnk_row.1 fun _ => ⟨lb, 0, rfl, h1.lt, h1.range⟩, fun l hl => ?_⟩
  have hl2 : l = ⟨10, 100, -1⟩ ∨ l = ⟨100, -100, -1⟩ := by simpa [awX] using hl
  rcases hl2 with rfl | rfl
  ·exact ⟨⟨rfl, rfl⟩, rfl⟩
  ·exact ⟨⟨rfl, rfl⟩, rfl⟩
 ·rw [List.mem_singleton] at hp
  subst hp
  exact ⟨by show 2 ≤ 1000; decide, by show 0 ≤ maxLen; decide, rfl, rfl⟩
set_option maxRecDepth 100000 in
set_option maxHeartbeats 6400000 in
theorem lawake_any (w : World) : Calls Tryz.prog 29 #[] w fun e w' => e = .returned (.bool true) ∧ Below w.heap.size w w' := by
 go_enter Tryz.func29, Tryz.ntmps29
 go_upto_region 2 with (first
  | (go_at_call 40; refine (spgrp_any _).mono ?_; rintro e w3 ⟨⟨A, c, E, p0, p1, p2, p3, rfl, hk⟩, hb⟩; have HK3 := Lib.hid hk; have HB3 := Lib.hid hb; clear hk hb; obtain ⟨s3, hs3⟩ : ∃ s3, w3.heap.size = s3 := ⟨_, rfl⟩; have HS3 := Lib.hid hs3)
  | (refine wpList_store_wh rfl 29 _ _ rfl s3 rfl 29 [.string ⟨#[]⟩, .int .i64 0, .int .i64 0, .int .i64 0, .slice none 0 0, .int .i64 0, .int .i64 0, .int .i64 0, .int .i64 0, .int .i64 0, .int .i64 0, .int .i64 0, .int .i64 0, .int .i64 0, .int .i64 0, .int .i64 0, .int .i64 0, .int .i64 0, .int .i64 0, .int .i64 0, .slice none 0 0] (grpC (smpG A c E)) rfl (by rw [← HS3.out]; exact Wh.new w3 29 [.string ⟨#[]⟩, .int .i64 0, .int .i64 0, .int .i64 0, .slice none 0 0, .int .i64 0, .int .i64 0, .int .i64 0, .int .i64 0, .int .i64 0, .int .i64 0, .int .i64 0, .int .i64 0, .int .i64 0, .int .i64 0, .int .i64 0, .int .i64 0, .int .i64 0, .int .i64 0, .int .i64 0, .slice none 0 0]) rfl (by kernel_rfl) (by kernel_rfl) ?_; intro w5 hr5 ho5 hz5; have HG5 := Lib.hid hr5.out; have hb5 : Below w3.heap.size w3 w5 := only_new (by rw [HS3.out]; exact ho5.out); have HK5 := Lib.hid (HK3.out.up hb5); have HB5 := Lib.hid (HB3.out.trans (hb5.mono HB3.out.size)); clear hr5 ho5 hz5 hb5 hs3 HK3 HB3))
 have q1 : w5.cell? ⟨s3, 1, none⟩ = some (.int .i64 2026) := HG5.out.at 1 _ rfl
 have q2 : w5.cell? ⟨s3, 2, none⟩ = some (.int .i64 1) := HG5.out.at 2 _ rfl
 have q3 : w5.cell? ⟨s3, 3, none⟩ = some (.int .i64 36) := HG5.out.at 3 _ rfl
 have HFI := Lib.hid (fun W => rfirst7_any 2026 1 36 0 W)
 rw [aw_first.1, aw_first.2] at HFI
 go_upto_region 3 with (go_at_call 38; refine (HFI.out _).mono ?_; rintro e w6 ⟨rfl, hb⟩; have HG6 := Lib.hid (HG5.out.up hb); have HK6 := Lib.hid (HK5.out.up hb); have HB6 := Lib.hid (HB5.out.trans (hb.mono HB5.out.size)); clear hb)
 clear q1 q2 q3 HG5 HK5 HB5
 obtain ⟨lb, hlb⟩ : ∃ lb, w6.heap.size = lb := ⟨_, rfl⟩
 have HLB := Lib.hid hlb
 have hwl : Wh 59 (w6.alloc (.cells #[.int .i64 10, .int .i64 100, .int .i64 (-1), .int .i64 100, .int .i64 (-100), .int .i64 (-1)] 59)) lb [.int .i64 10, .int .i64 100, .int .i64 (-1), .int .i64 100, .int .i64 (-100), .int .i64 (-1)] := by rw [← hlb]; exact Wh.new w6 _ _
 have HW7 := Lib.hid hwl
 have HS7 : Hid ((w6.alloc (.cells #[.int .i64 10, .int .i64 100, .int .i64 (-1), .int .i64 100, .int .i64 (-100), .int .i64 (-1)] 59)).heap.size = lb + 1) := Lib.hid (by rw [World.size_alloc, hlb])
 have HN7 : Hid (Wh 46 ((w6.alloc (.cells #[.int .i64 10, .int .i64 100, .int .i64 (-1), .int .i64 100, .int .i64 (-100), .int .i64 (-1)] 59)).alloc (.cells #[.int .i64 0, .int .i64 0, .int .i64 0, .int .i64 0, .int .i64 0, .string ⟨#[]⟩, .slice none 0 0] 46)) (lb + 1) [.int .i64 0, .int .i64 0, .int .i64 0, .int .i64 0, .int .i64 0, .string ⟨#[]⟩, .slice none 0 0]) := Lib.hid (by rw [← HS7.out]; exact Wh.new _ 46 [.int .i64 0, .int .i64 0, .int .i64 0, .int .i64 0, .int .i64 0, .string ⟨#[]⟩, .slice none 0 0])
 clear hwl
 go_upto_region 4 with (first
  | (refine wpList_build_is rfl 46 _ rfl [(0, .int .i64 1), (2, .int .i64 20454), (3, .int .i64 1), (6, .slice (some ⟨lb, 0, none⟩) 2 2)] rfl (etyV (awE lb)) (aw_build lb _) ?_)
  | (refine wpList_store_wh rfl 46 _ _ rfl (lb + 1) rfl 46 [.int .i64 0, .int .i64 0, .int .i64 0, .int .i64 0, .int .i64 0, .string ⟨#[]⟩, .slice none 0 0] (etyC (awE lb)) rfl HN7.out rfl (by kernel_rfl) (by kernel_rfl) ?_; intro w8 hr8 ho8 hz8; have HE8 := Lib.hid hr8.out; have hb8 : Below (w6.alloc (.cells #[.int .i64 10, .int .i64 100, .int .i64 (-1), .int .i64 100, .int .i64 (-100), .int .i64 (-1)] 59)).heap.size (w6.alloc (.cells #[.int .i64 10, .int .i64 100, .int .i64 (-1), .int .i64 100, .int .i64 (-100), .int .i64 (-1)] 59)) w8 := only_new (by rw [HS7.out]; exact ho8.out); have HW8 := Lib.hid (HW7.out.up hb8); have hb68 : Below w6.heap.size w6 w8 := (below_alloc_new (w := w6) _).trans (hb8.mono (by rw [World.size_alloc]; omega)); have HG8 := Lib.hid (HG6.out.up hb68); have HK8 := Lib.hid (HK6.out.up hb68); have HB8 := Lib.hid (HB6.out.trans (hb68.mono HB6.out.size)); clear hr8 ho8 hz8 hb8 hb68))
 clear HG6 HK6 HB6 HW7 HN7 HS7 HLB hlb
 obtain ⟨eb, heb⟩ : ∃ eb, w8.heap.size = eb := ⟨_, rfl⟩
 obtain ⟨W9, hW9⟩ : ∃ W9, w8.alloc (.cells #[.int .i64 1, .int .i64 0, .int .i64 20454, .int .i64 1, .int .i64 0, .string ⟨#[]⟩, .slice (some ⟨lb, 0, none⟩) 2 2] 46) = W9 := ⟨_, rfl⟩
 have he9 : Wh 46 W9 eb (etyC (awE lb)) := by rw [← hW9, ← heb]; exact Wh.new w8 _ _
 have hb9 : Below w8.heap.size w8 W9 := by rw [← hW9]; exact below_alloc_new _
 have HBL := Lib.hid (lbalance_any (smpG A c E) smpL (smpEs p0 p1 p2 p3) (some ⟨eb, 0, none⟩) 1 [(awE lb, awX)] 0 100 20454 W9 (aw_x lb eb A c E p0 p1 p2 p3 W9 (HK8.out.up hb9) (HW8.out.up hb9) he9))
 rw [aw_lb, aw_kn, show [(awE lb, awX)].length = 1 from rfl] at HBL
 have HLG : Hid ((Instr.loadAt 29 (.pointer (some ⟨s3, 0, none⟩))).run Tryz.prog w8 = .ok (grpV (smpG A c E)) w8) := Lib.hid (by rw [grpV_is]; exact HG8.out.rg.load 0 29 (grpC (smpG A c E)) rfl _ Tryz.underlying29 rfl (by kernel_rfl))
 have HLE : Hid ((Instr.loadAt 46 (.pointer (some ⟨lb + 1, 0, none⟩))).run Tryz.prog w8 = .ok (.agg #[.int .i64 1, .int .i64 0, .int .i64 20454, .int .i64 1, .int .i64 0, .string ⟨#[]⟩, .slice (some ⟨lb, 0, none⟩) 2 2]) w8) := Lib.hid (HE8.out.rg.load 0 46 (etyC (awE lb)) rfl _ Tryz.underlying46 rfl (by kernel_rfl))
 obtain ⟨GV, hGV⟩ : ∃ GV, GV = grpV (smpG A c E) := ⟨_, rfl⟩
 rw [← hGV] at HLG HBL
 have HB9 := Lib.hid (HB8.out.trans (hb9.mono HB8.out.size))
 have HM1 : True := trivial
 have HM2 : True := trivial
 clear hGV he9 hb9 HB8
 go_wp2_with (first
  | (clear HM1; refine wpList_load_is rfl 29 _ rfl (.pointer (some ⟨s3, 0, none⟩)) rfl GV HLG.out ?_)
  | (clear HM2; refine wpList_load_is rfl 46 _ rfl (.pointer (some ⟨lb + 1, 0, none⟩)) rfl (.agg #[.int .i64 1, .int .i64 0, .int .i64 20454, .int .i64 1, .int .i64 0, .string ⟨#[]⟩, .slice (some ⟨lb, 0, none⟩) 2 2]) HLE.out ?_)
  | (go_at_call 30; refine HBL.out.mono ?_; rintro e w10 ⟨rfl, hb⟩; have HB10 := Lib.hid (HB9.out.trans (hb.mono HB9.out.size)); clear hb))
 go_ret
 exact ⟨by first | rfl | simp, HB10.out⟩
set_option maxRecDepth 100000 in
set_option maxHeartbeats 3200000 in
theorem ldays_any (y m k p : Int) (w : World) : Calls Tryz.prog 66 #[calV y m k, .int .i64 p] w fun r w' => r = .returned (.tuple #[.int .i64 (pdF y m k p), .int .i64 (pdL y m k p), .int .i64 (clE y m k p)]) ∧ Below w.heap.size w w' := by
 have HF := Lib.hid (fun W => cfirst7_any y m k p W)
 have HL := Lib.hid (fun W => clast7_any y m k p W)
 obtain ⟨s0, hs0⟩ : ∃ s0, w.heap.size = s0 := ⟨_, rfl⟩
 obtain ⟨w2, hw2⟩ : ∃ w2, w.alloc (.cells #[.int .i64 y, .int .i64 m, .int .i64 k] 23) = w2 := ⟨_, rfl⟩
 have HCB : Hid (Wh 23 w2 s0 [.int .i64 y, .int .i64 m, .int .i64 k]) := Lib.hid (by rw [← hw2, ← hs0]; exact Wh.new w _ _)
 have HB2 : Hid (Below w.heap.size w w2) := Lib.hid (by rw [← hw2]; exact below_alloc_new _)
 have HS0 := Lib.hid hs0
 have HBC : Hid (Below w2.heap.size w2 w2) := Lib.hid (Below.refl _ _)
 have HBW : Hid (∀ W, Below w2.heap.size w2 W → Below w.heap.size w W) := Lib.hid (fun W h => HB2.out.trans (h.mono HB2.out.size))
 have c0 := HCB.out.at 0 _ rfl
 have c1 := HCB.out.at 1 _ rfl
 have c2 := HCB.out.at 2 _ rfl
 have HOUT := Lib.hid (fun h => pd_out (y := y) (m := m) (k := k) (p := p) h)
 obtain ⟨E, hE⟩ : ∃ E, clE y m k p = E := ⟨_, rfl⟩
 rw [hE] at HF HL HOUT ⊢
 obtain ⟨fV, hfV⟩ : ∃ fV, pdF y m k p = fV := ⟨_, rfl⟩
 obtain ⟨lV, hlV⟩ : ∃ lV, pdL y m k p = lV := ⟨_, rfl⟩
 rw [hfV] at HF HOUT ⊢
 rw [hlV] at HL HOUT ⊢
 clear hE hfV hlV
 by_cases hE0 : E = 0
 ·have z1 : (E != 0) = false := by simp [hE0]
  have HM1 : True := trivial
  clear hE0
  go_enter Tryz.func66, Tryz.ntmps66
  go_wp2_with (first
   | (clear HM1; go_at_call 97; refine (HF.out _).mono ?_; rintro r w3 ⟨rfl, hb⟩; have hB3 := Lib.hid (HBC.out.trans (hb.mono HBC.out.size)); clear hb HBC; have HBC := hB3; clear hB3; have k0 := (HCB.out.up HBC.out).at 0 _ rfl; have k1 := (HCB.out.up HBC.out).at 1 _ rfl; have k2 := (HCB.out.up HBC.out).at 2 _ rfl)
   | (go_at_call 98; refine (HL.out _).mono ?_; rintro r w3 ⟨rfl, hb⟩; have hB3 := Lib.hid (HBC.out.trans (hb.mono HBC.out.size)); clear hb HBC; have HBC := hB3; clear hB3))
  go_ret3
  exact ⟨by first | rfl | simp, by have h9 := HBW.out _ HBC.out; first | exact h9 | (rw [← HS0.out]; exact h9)⟩
 ·have z1 : (E != 0) = true := by simp [hE0]
  obtain ⟨q1, q2, -⟩ := HOUT.out hE0
  rw [q1, q2] at *
  go_enter Tryz.func66, Tryz.ntmps66
  go_wp2_with (first
   | (go_at_call 97; refine (HF.out _).mono ?_; rintro r w3 ⟨rfl, hb⟩; have hB3 := Lib.hid (HBC.out.trans (hb.mono HBC.out.size)); clear hb HBC; have HBC := hB3; clear hB3))
  go_ret3
  exact ⟨by first | rfl | simp, by have h9 := HBW.out _ HBC.out; first | exact h9 | (rw [← HS0.out]; exact h9)⟩
def tuE (g : Grp) (L : List Acc) (G : List Ent) (Xs : List Etl) (e a p : Int) : Int := if lgE g L G Xs e = 0 then (if clE g.cy g.cm g.cp p = 0 then acE G e a else 2) else lgE g L G Xs e
def tuD (g : Grp) (L : List Acc) (G : List Ent) (Xs : List Etl) (e a p : Int) : Int := if tuE g L G Xs e a p = 0 then wr (dbtS Xs e a (pdF g.cy g.cm g.cp p) (pdL g.cy g.cm g.cp p)) else 0
def tuC (g : Grp) (L : List Acc) (G : List Ent) (Xs : List Etl) (e a p : Int) : Int := if tuE g L G Xs e a p = 0 then wr (cdtS Xs e a (pdF g.cy g.cm g.cp p) (pdL g.cy g.cm g.cp p)) else 0
theorem tu_bad {g : Grp} {L : List Acc} {G : List Ent} {Xs : List Etl} {e a p : Int} (h : tuE g L G Xs e a p ≠ 0) : tuD g L G Xs e a p = 0 ∧ tuC g L G Xs e a p = 0 := by unfold tuD tuC; rw [if_neg h, if_neg h]; exact ⟨rfl, rfl⟩
theorem tu_good {g : Grp} {L : List Acc} {G : List Ent} {Xs : List Etl} {e a p : Int} (h : tuE g L G Xs e a p = 0) : tuD g L G Xs e a p = wrap64 (dbtS Xs e a (pdF g.cy g.cm g.cp p) (pdL g.cy g.cm g.cp p)) ∧ tuC g L G Xs e a p = wrap64 (cdtS Xs e a (pdF g.cy g.cm g.cp p) (pdL g.cy g.cm g.cp p)) := by unfold tuD tuC; rw [if_pos h, if_pos h]; exact ⟨rfl, rfl⟩
set_option maxRecDepth 100000 in
set_option maxHeartbeats 12800000 in
theorem lturn_any (g : Grp) (L : List Acc) (G : List Ent) (A : Option Addr) (c : Nat) (Xs : List Etl) (e a p : Int) (w : World) (h : LgX w g L G A c Xs) :
  Calls Tryz.prog 33 #[grpV g, .slice A Xs.length c, .int .i64 e, .int .i64 a, .int .i64 p] w fun r w' => r = .returned (.tuple #[.int .i64 (tuD g L G Xs e a p), .int .i64 (tuC g L G Xs e a p), .int .i64 (tuE g L G Xs e a p)]) ∧ Below w.heap.size w w' := by
 obtain ⟨GV, hGV⟩ : ∃ GV, GV = grpV g := ⟨_, rfl⟩
 obtain ⟨gs, hgs⟩ : ∃ gs, (grpC g).toArray = gs := ⟨_, rfl⟩
 obtain ⟨s0, hs0⟩ : ∃ s0, w.heap.size = s0 := ⟨_, rfl⟩
 obtain ⟨w2, hw2⟩ : ∃ w2, (w.alloc (.cells gs 29)).alloc (.cells #[.int .i64 a] 3) = w2 := ⟨_, rfl⟩
 have HGB : Hid (Wh 29 w2 s0 (grpC g)) := Lib.hid (by rw [← hw2, ← hgs, ← hs0]; exact (Wh.new w _ _).up (below_alloc_new _))
 have HAB : Hid (Wh 3 w2 (s0 + 1) [.int .i64 a]) := Lib.hid (by
  rw [← hw2, ← hs0]
  have h9 := Wh.new (w.alloc (.cells gs 29)) 3 [.int .i64 a]
  rw [World.size_alloc] at h9
  exact h9)
 have HB2 : Hid (Below w.heap.size w w2) := Lib.hid (by rw [← hw2]; exact below_new (below_alloc_new _) _)
 have HS0 := Lib.hid hs0
 have HLG : Hid (∀ W, Below w2.heap.size w2 W → (Instr.loadAt 29 (.pointer (some ⟨s0, 0, none⟩))).run Tryz.prog W = .ok GV W) := Lib.hid (fun W h => by rw [hGV, grpV_is]; exact (HGB.out.up h).rg.load 0 29 (grpC g) rfl _ Tryz.underlying29 rfl (by kernel_rfl))
 have HBC : Hid (Below w2.heap.size w2 w2) := Lib.hid (Below.refl _ _)
 have HBW : Hid (∀ W, Below w2.heap.size w2 W → Below w.heap.size w W) := Lib.hid (fun W h => HB2.out.trans (h.mono HB2.out.size))
 have HCE := Lib.hid (fun W (hb : Below w2.heap.size w2 W) => lce_any g L G A c Xs e W ((h.up HB2.out).up hb))
 have HCA := Lib.hid (fun W (hb : Below w2.heap.size w2 W) (he : 0 ≤ e ∧ e < (g.m : Int)) => lca_any g L G e a W ((h.up HB2.out).up hb).hk h.hs he)
 have HDY := Lib.hid (fun W => ldays_any g.cy g.cm g.cp p W)
 have hGS : GV = .agg gs := by rw [hGV, grpV_is, hgs]
 rw [← hGV] at HCE HCA ⊢
 rw [hGS]
 clear hGS hGV
 have HM1 : True := trivial
 have HM2 : True := trivial
 have HM3 : True := trivial
 obtain ⟨fV, hfV⟩ : ∃ fV, pdF g.cy g.cm g.cp p = fV := ⟨_, rfl⟩
 obtain ⟨lV, hlV⟩ : ∃ lV, pdL g.cy g.cm g.cp p = lV := ⟨_, rfl⟩
 have HSU1 : Hid (∀ W b1 b2 b3 fb, Below w2.heap.size w2 W → Wh 3 W fb [.int .i64 fV] → Wh 30 W b1 [.slice A Xs.length c] → Wh 3 W b2 [.int .i64 e] → Wh 3 W b3 [.int .i64 lV] → Calls Tryz.prog 68 #[lnuV b1 b2 b3, .func (.func 69) #[] #[.pointer (some ⟨s0 + 1, 0, none⟩), .pointer (some ⟨fb, 0, none⟩)]] W fun r w' => r = .returned (.int .i64 (wrap64 (dbtS Xs e a fV lV))) ∧ Below W.heap.size W w') := Lib.hid (fun W b1 b2 b3 fb hb hf h1 h2 h3 =>
  lsum_any 69 #[.pointer (some ⟨s0 + 1, 0, none⟩), .pointer (some ⟨fb, 0, none⟩)] (enters_of Tryz.func69 (by kernel_rfl) rfl) (lcD a fV) b1 b2 b3 A c Xs e lV W (fun W2 q h => ltur1_any q (s0 + 1) a fb fV W2 ((HAB.out.up hb).up h) (hf.up h)) h1 h2 h3 ((h.hz.up HB2.out).up hb) ((h.hzs.up HB2.out).up hb) h.zn h.l5)
 have HSU2 : Hid (∀ W b1 b2 b3 fb, Below w2.heap.size w2 W → Wh 3 W fb [.int .i64 fV] → Wh 30 W b1 [.slice A Xs.length c] → Wh 3 W b2 [.int .i64 e] → Wh 3 W b3 [.int .i64 lV] → Calls Tryz.prog 68 #[lnuV b1 b2 b3, .func (.func 70) #[] #[.pointer (some ⟨s0 + 1, 0, none⟩), .pointer (some ⟨fb, 0, none⟩)]] W fun r w' => r = .returned (.int .i64 (wrap64 (cdtS Xs e a fV lV))) ∧ Below W.heap.size W w') := Lib.hid (fun W b1 b2 b3 fb hb hf h1 h2 h3 =>
  lsum_any 70 #[.pointer (some ⟨s0 + 1, 0, none⟩), .pointer (some ⟨fb, 0, none⟩)] (enters_of Tryz.func70 (by kernel_rfl) rfl) (lcC a fV) b1 b2 b3 A c Xs e lV W (fun W2 q h => ltur2_any q (s0 + 1) a fb fV W2 ((HAB.out.up hb).up h) (hf.up h)) h1 h2 h3 ((h.hz.up HB2.out).up hb) ((h.hzs.up HB2.out).up hb) h.zn h.l5)
 obtain ⟨n, hn⟩ : ∃ n, Xs.length = n := ⟨_, rfl⟩
 rw [hn] at HCE HSU1 HSU2 ⊢
 have HLU := Lib.hid (fun W => lnu_any A n c e lV W)
 have HC20 : Hid (∀ W, Below w2.heap.size w2 W → W.cell? ⟨s0, 1, none⟩ = some (.int .i64 g.cy) ∧ W.cell? ⟨s0, 2, none⟩ = some (.int .i64 g.cm) ∧ W.cell? ⟨s0, 3, none⟩ = some (.int .i64 g.cp) ∧ W.cell? ⟨s0 + 1, 0, none⟩ = some (.int .i64 a)) := Lib.hid (fun W hb => ⟨(HGB.out.up hb).at 1 _ rfl, (HGB.out.up hb).at 2 _ rfl, (HGB.out.up hb).at 3 _ rfl, (HAB.out.up hb).at 0 _ rfl⟩)
 have HTB := Lib.hid (fun h => tu_bad (g := g) (L := L) (G := G) (Xs := Xs) (e := e) (a := a) (p := p) h)
 have HTG := Lib.hid (fun h => tu_good (g := g) (L := L) (G := G) (Xs := Xs) (e := e) (a := a) (p := p) h)
 rw [hfV, hlV] at HTG
 rw [hfV, hlV] at HDY
 clear hgs hn h hfV hlV
 obtain ⟨DV, hDV⟩ : ∃ DV, wrap64 (dbtS Xs e a fV lV) = DV := ⟨_, rfl⟩
 obtain ⟨CV, hCV⟩ : ∃ CV, wrap64 (cdtS Xs e a fV lV) = CV := ⟨_, rfl⟩
 rw [hDV] at HSU1 HTG
 rw [hCV] at HSU2 HTG
 clear hDV hCV
 obtain ⟨E, hE⟩ : ∃ E, lgE g L G Xs e = E := ⟨_, rfl⟩
 rw [hE] at HCE
 by_cases hE0 : E = 0
 ·obtain ⟨hjr, he0, he1⟩ := lgE_zero (hE.trans hE0)
  have hcl := grp_cal (jrn_grp hjr).1
  obtain ⟨F, hF⟩ : ∃ F, acE G e a = F := ⟨_, rfl⟩
  have HCB := Lib.hid (fun W hb => HCA.out W hb ⟨he0, he1⟩)
  rw [hF] at HCB
  have z1 : (E != 0) = false := by simp [hE0]
  obtain ⟨K, hK⟩ : ∃ K, clE g.cy g.cm g.cp p = K := ⟨_, rfl⟩
  have hK2 : K = 0 ∨ K = 2 := by
   rcases clE_three g.cy g.cm g.cp p with ⟨h1, -⟩ | ⟨-, -, h2⟩ | ⟨-, -, h2⟩
   ·rw [hcl] at h1; cases h1
   ·exact .inr (hK.symm.trans h2)
   ·exact .inl (hK.symm.trans h2)
  rw [hK] at HDY
  clear HCA he0 he1 hjr hcl
  by_cases hK0 : K = 0
  ·have z2 : (K != 0) = false := by simp [hK0]
   have HTE : Hid (tuE g L G Xs e a p = F) := Lib.hid (by unfold tuE; rw [hE, if_pos hE0, hK, if_pos hK0, hF])
   rw [HTE.out] at HTB HTG ⊢
   clear hK2 hK0 hK hE
   subst hE0
   go_enter Tryz.func33, Tryz.ntmps33
   go_upto_region 5 with (first
    | (clear HM1; refine wpList_load_is rfl 29 _ rfl (.pointer (some ⟨s0, 0, none⟩)) rfl GV (HLG.out _ HBC.out) ?_)
    | (go_at_call 61; refine (HCE.out _ HBC.out).mono ?_; rintro r w3 ⟨rfl, hb⟩; have hB3 := Lib.hid (HBC.out.trans (hb.mono HBC.out.size)); clear hb HBC; have HBC := hB3; clear hB3; obtain ⟨q1, q2, q3, -⟩ := HC20.out _ HBC.out)
    | (go_at_call 66; refine (HDY.out _).mono ?_; rintro r w3 ⟨rfl, hb⟩; have hB3 := Lib.hid (HBC.out.trans (hb.mono HBC.out.size)); clear hb HBC; have HBC := hB3; clear hB3))
   obtain ⟨fb, hfb⟩ : ∃ fb, w3.heap.size = fb := ⟨_, rfl⟩
   obtain ⟨w5, hw5⟩ : ∃ w5, World.alloc w3 (.cells #[.int .i64 fV] 3) = w5 := ⟨_, rfl⟩
   have HFB : Hid (Wh 3 w5 fb [.int .i64 fV]) := Lib.hid (by rw [← hw5, ← hfb]; exact Wh.new _ _ _)
   have hB5 := Lib.hid (HBC.out.trans ((below_alloc_new (w := w3) (.cells #[.int .i64 fV] 3)).mono HBC.out.size))
   rw [hw5] at hB5
   have HF5 : Hid (∀ W, Below w5.heap.size w5 W → Wh 3 W fb [.int .i64 fV] ∧ Below w2.heap.size w2 W) := Lib.hid (fun W hb => ⟨HFB.out.up hb, hB5.out.trans (hb.mono hB5.out.size)⟩)
   rw [hfb, hw5]
   clear HBC hw5 hfb q1 q2 q3
   have HBC := hB5
   have HB6 : Hid (Below w5.heap.size w5 w5) := Lib.hid (Below.refl _ _)
   clear hB5
   obtain ⟨-, -, -, q4⟩ := HC20.out _ HBC.out
   by_cases hF0 : F = 0
   ·have z3 : (F != 0) = false := by simp [hF0]
    have HF0 := Lib.hid hF0
    have HT1 := Lib.hid (HTG.out hF0)
    clear hF0
    go_wp2_with (first
     | (clear HM2; refine wpList_load_is rfl 29 _ rfl (.pointer (some ⟨s0, 0, none⟩)) rfl GV (HLG.out _ HBC.out) ?_)
     | (go_at_call 62; refine (HCB.out _ HBC.out).mono ?_; rintro r w3 ⟨rfl, hb⟩; have hB3 := Lib.hid (HB6.out.trans (hb.mono HB6.out.size)); clear hb HB6; have HB6 := hB3; clear hB3)
     | (go_at_call 67; refine (HLU.out _).mono ?_; rintro r w3 ⟨⟨b1, b2, b3, rfl, k1, k2, k3⟩, hb⟩; have hKB := Lib.hid hb; have hB3 := Lib.hid (HB6.out.trans (hb.mono HB6.out.size)); clear hb HB6; have HB6 := hB3; clear hB3; have HK1 := Lib.hid k1; have HK2 := Lib.hid k2; have HK3 := Lib.hid k3; clear k1 k2 k3)
     | (clear HM3; go_at_call 68; refine (HSU1.out _ _ _ _ fb (HF5.out _ HB6.out).2 (HF5.out _ HB6.out).1 HK1.out HK2.out HK3.out).mono ?_; rintro r w3 ⟨rfl, hb⟩; have HK4 := Lib.hid (HK1.out.up hb); have HK5 := Lib.hid (HK2.out.up hb); have HK6 := Lib.hid (HK3.out.up hb); have hB3 := Lib.hid (HB6.out.trans (hb.mono HB6.out.size)); clear hb HB6; have HB6 := hB3; clear hB3)
     | (go_at_call 68; refine (HSU2.out _ _ _ _ fb (HF5.out _ HB6.out).2 (HF5.out _ HB6.out).1 HK4.out HK5.out HK6.out).mono ?_; rintro r w3 ⟨rfl, hb⟩; have hB3 := Lib.hid (HB6.out.trans (hb.mono HB6.out.size)); clear hb HB6; have HB6 := hB3; clear hB3))
    go_ret3
    exact ⟨by rw [HT1.out.1, HT1.out.2]; first | rfl | simp [HF0.out], by have h9 := HBW.out _ (HF5.out _ HB6.out).2; first | exact h9 | (rw [← HS0.out]; exact h9)⟩
   ·have z3 : (F != 0) = true := by simp [hF0]
    have HT1 := Lib.hid (HTB.out hF0)
    clear hF0
    go_wp2_with (first
     | (clear HM2; refine wpList_load_is rfl 29 _ rfl (.pointer (some ⟨s0, 0, none⟩)) rfl GV (HLG.out _ HBC.out) ?_)
     | (go_at_call 62; refine (HCB.out _ HBC.out).mono ?_; rintro r w3 ⟨rfl, hb⟩; have hB3 := Lib.hid (HB6.out.trans (hb.mono HB6.out.size)); clear hb HB6; have HB6 := hB3; clear hB3))
    go_ret3
    exact ⟨by rw [HT1.out.1, HT1.out.2]; first | rfl | simp, by have h9 := HBW.out _ (HF5.out _ HB6.out).2; first | exact h9 | (rw [← HS0.out]; exact h9)⟩
  ·obtain rfl : K = 2 := by omega
   have HTE : Hid (tuE g L G Xs e a p = 2) := Lib.hid (by unfold tuE; rw [hE, if_pos hE0, hK, if_neg hK0])
   obtain ⟨t1, t2⟩ := HTB.out (by rw [HTE.out]; decide)
   rw [HTE.out, t1, t2]
   clear hK2 hK0 hK hE t1 t2
   subst hE0
   go_enter Tryz.func33, Tryz.ntmps33
   go_wp2_with (first
    | (clear HM1; refine wpList_load_is rfl 29 _ rfl (.pointer (some ⟨s0, 0, none⟩)) rfl GV (HLG.out _ HBC.out) ?_)
    | (go_at_call 61; refine (HCE.out _ HBC.out).mono ?_; rintro r w3 ⟨rfl, hb⟩; have hB3 := Lib.hid (HBC.out.trans (hb.mono HBC.out.size)); clear hb HBC; have HBC := hB3; clear hB3; obtain ⟨q1, q2, q3, -⟩ := HC20.out _ HBC.out)
    | (go_at_call 66; refine (HDY.out _).mono ?_; rintro r w3 ⟨rfl, hb⟩; have hB3 := Lib.hid (HBC.out.trans (hb.mono HBC.out.size)); clear hb HBC; have HBC := hB3; clear hB3))
   go_ret3
   exact ⟨by first | rfl | simp, by have h8 := HBW.out _ HBC.out; first | exact below_new h8 _ | (rw [← HS0.out]; exact below_new h8 _)⟩
 ·have z1 : (E != 0) = true := by simp [hE0]
  have HTE : Hid (tuE g L G Xs e a p = E) := Lib.hid (by unfold tuE; rw [hE, if_neg hE0])
  obtain ⟨t1, t2⟩ := HTB.out (by rw [HTE.out]; exact hE0)
  rw [HTE.out, t1, t2]
  clear hE hE0 t1 t2
  go_enter Tryz.func33, Tryz.ntmps33
  go_wp2_with (first
   | (clear HM1; refine wpList_load_is rfl 29 _ rfl (.pointer (some ⟨s0, 0, none⟩)) rfl GV (HLG.out _ HBC.out) ?_)
   | (go_at_call 61; refine (HCE.out _ HBC.out).mono ?_; rintro r w3 ⟨rfl, hb⟩; have hB3 := Lib.hid (HBC.out.trans (hb.mono HBC.out.size)); clear hb HBC; have HBC := hB3; clear hB3))
  go_ret3
  exact ⟨by first | rfl | simp, by have h9 := HBW.out _ HBC.out; first | exact h9 | (rw [← HS0.out]; exact h9)⟩
set_option maxRecDepth 100000 in
set_option maxHeartbeats 6400000 in
theorem lmov_any (g : Grp) (L : List Acc) (G : List Ent) (A : Option Addr) (c : Nat) (Xs : List Etl) (e a p : Int) (w : World) (h : LgX w g L G A c Xs) :
  Calls Tryz.prog 32 #[grpV g, .slice A Xs.length c, .int .i64 e, .int .i64 a, .int .i64 p] w fun r w' => r = .returned (.tuple #[.int .i64 (wrap64 (tuD g L G Xs e a p + tuC g L G Xs e a p)), .int .i64 (tuE g L G Xs e a p)]) ∧ Below w.heap.size w w' := by
 obtain ⟨GV, hGV⟩ : ∃ GV, GV = grpV g := ⟨_, rfl⟩
 obtain ⟨gs, hgs⟩ : ∃ gs, (grpC g).toArray = gs := ⟨_, rfl⟩
 obtain ⟨s0, hs0⟩ : ∃ s0, w.heap.size = s0 := ⟨_, rfl⟩
 obtain ⟨w2, hw2⟩ : ∃ w2, w.alloc (.cells gs 29) = w2 := ⟨_, rfl⟩
 have HGB : Hid (Wh 29 w2 s0 (grpC g)) := Lib.hid (by rw [← hw2, ← hgs, ← hs0]; exact Wh.new w _ _)
 have HB2 : Hid (Below w.heap.size w w2) := Lib.hid (by rw [← hw2]; exact below_alloc_new _)
 have HS0 := Lib.hid hs0
 have HLG : Hid (∀ W, Below w2.heap.size w2 W → (Instr.loadAt 29 (.pointer (some ⟨s0, 0, none⟩))).run Tryz.prog W = .ok GV W) := Lib.hid (fun W h => by rw [hGV, grpV_is]; exact (HGB.out.up h).rg.load 0 29 (grpC g) rfl _ Tryz.underlying29 rfl (by kernel_rfl))
 have HBC : Hid (Below w2.heap.size w2 w2) := Lib.hid (Below.refl _ _)
 have HBW : Hid (∀ W, Below w2.heap.size w2 W → Below w.heap.size w W) := Lib.hid (fun W h => HB2.out.trans (h.mono HB2.out.size))
 have HCE := Lib.hid (fun W (hb : Below w2.heap.size w2 W) => lturn_any g L G A c Xs e a p W ((h.up HB2.out).up hb))
 have hGS : GV = .agg gs := by rw [hGV, grpV_is, hgs]
 rw [← hGV] at HCE ⊢
 rw [hGS]
 clear hGS hGV
 have HM1 : True := trivial
 obtain ⟨n, hn⟩ : ∃ n, Xs.length = n := ⟨_, rfl⟩
 rw [hn] at HCE ⊢
 clear hgs hn h
 generalize tuD g L G Xs e a p = DV at *
 generalize tuC g L G Xs e a p = CV at *
 generalize tuE g L G Xs e a p = E at *
 go_enter Tryz.func32, Tryz.ntmps32
 go_wp2_with (first
  | (clear HM1; refine wpList_load_is rfl 29 _ rfl (.pointer (some ⟨s0, 0, none⟩)) rfl GV (HLG.out _ HBC.out) ?_)
  | (go_at_call 33; refine (HCE.out _ HBC.out).mono ?_; rintro r w3 ⟨rfl, hb⟩; have hB3 := Lib.hid (HBC.out.trans (hb.mono HBC.out.size)); clear hb HBC; have HBC := hB3; clear hB3))
 go_ret2
 exact ⟨by first | rfl | simp, by have h9 := HBW.out _ HBC.out; first | exact h9 | (rw [← HS0.out]; exact h9)⟩
set_option maxRecDepth 100000 in
set_option maxHeartbeats 12800000 in
theorem r14turn_any (g : Grp) (L : List Acc) (G : List Ent) (A : Option Addr) (c : Nat) (Xs : List Etl) (e a p : Int) (w : World) (h : LgX w g L G A c Xs) :
  Calls Tryz.prog 34 #[grpV g, .slice A Xs.length c, .int .i64 e, .int .i64 a, .int .i64 p] w fun r w' => r = .returned (.tuple #[.int .i64 (tuD g L G Xs e a p), .int .i64 (tuC g L G Xs e a p), .int .i64 (tuE g L G Xs e a p)]) ∧ Below w.heap.size w w' := by
 obtain ⟨GV, hGV⟩ : ∃ GV, GV = grpV g := ⟨_, rfl⟩
 obtain ⟨gs, hgs⟩ : ∃ gs, (grpC g).toArray = gs := ⟨_, rfl⟩
 obtain ⟨s0, hs0⟩ : ∃ s0, w.heap.size = s0 := ⟨_, rfl⟩
 obtain ⟨w2, hw2⟩ : ∃ w2, w.alloc (.cells gs 29) = w2 := ⟨_, rfl⟩
 have HGB : Hid (Wh 29 w2 s0 (grpC g)) := Lib.hid (by rw [← hw2, ← hgs, ← hs0]; exact Wh.new w _ _)
 have HB2 : Hid (Below w.heap.size w w2) := Lib.hid (by rw [← hw2]; exact below_alloc_new _)
 have HS0 := Lib.hid hs0
 have HLG : Hid (∀ W, Below w2.heap.size w2 W → (Instr.loadAt 29 (.pointer (some ⟨s0, 0, none⟩))).run Tryz.prog W = .ok GV W) := Lib.hid (fun W h => by rw [hGV, grpV_is]; exact (HGB.out.up h).rg.load 0 29 (grpC g) rfl _ Tryz.underlying29 rfl (by kernel_rfl))
 have HBC : Hid (Below w2.heap.size w2 w2) := Lib.hid (Below.refl _ _)
 have HBW : Hid (∀ W, Below w2.heap.size w2 W → Below w.heap.size w W) := Lib.hid (fun W h => HB2.out.trans (h.mono HB2.out.size))
 have HCE := Lib.hid (fun W (hb : Below w2.heap.size w2 W) => r14check_any g L G A c Xs e W ((h.up HB2.out).up hb))
 have HCB := Lib.hid (fun W (hb : Below w2.heap.size w2 W) => r14known_any g L G A c Xs e a W ((h.up HB2.out).up hb))
 have HDF := Lib.hid (fun W => rfirst7_any g.cy g.cm g.cp p W)
 have HDL := Lib.hid (fun W => rlast7_any g.cy g.cm g.cp p W)
 have hGS : GV = .agg gs := by rw [hGV, grpV_is, hgs]
 rw [← hGV] at HCE HCB ⊢
 rw [hGS]
 clear hGS hGV
 have HM1 : True := trivial
 have HM2 : True := trivial
 obtain ⟨fV, hfV⟩ : ∃ fV, pdF g.cy g.cm g.cp p = fV := ⟨_, rfl⟩
 obtain ⟨lV, hlV⟩ : ∃ lV, pdL g.cy g.cm g.cp p = lV := ⟨_, rfl⟩
 have HSU := Lib.hid (fun W (hb : Below w2.heap.size w2 W) => rsums14_any A c Xs e a fV lV W ((h.up HB2.out).up hb).hz ((h.up HB2.out).up hb).hzs h.zn h.l5)
 obtain ⟨n, hn⟩ : ∃ n, Xs.length = n := ⟨_, rfl⟩
 rw [hn] at HCE HCB HSU ⊢
 have HC20 : Hid (∀ W, Below w2.heap.size w2 W → W.cell? ⟨s0, 1, none⟩ = some (.int .i64 g.cy) ∧ W.cell? ⟨s0, 2, none⟩ = some (.int .i64 g.cm) ∧ W.cell? ⟨s0, 3, none⟩ = some (.int .i64 g.cp)) := Lib.hid (fun W hb => ⟨(HGB.out.up hb).at 1 _ rfl, (HGB.out.up hb).at 2 _ rfl, (HGB.out.up hb).at 3 _ rfl⟩)
 have HTB := Lib.hid (fun h => tu_bad (g := g) (L := L) (G := G) (Xs := Xs) (e := e) (a := a) (p := p) h)
 have HTG := Lib.hid (fun h => tu_good (g := g) (L := L) (G := G) (Xs := Xs) (e := e) (a := a) (p := p) h)
 rw [hfV, hlV] at HTG
 rw [hfV] at HDF
 rw [hlV] at HDL
 clear hgs hn h hfV hlV
 obtain ⟨DV, hDV⟩ : ∃ DV, wr (dbtS Xs e a fV lV) = DV := ⟨_, rfl⟩
 obtain ⟨CV, hCV⟩ : ∃ CV, wr (cdtS Xs e a fV lV) = CV := ⟨_, rfl⟩
 rw [hDV, hCV] at HSU
 rw [show wrap64 (dbtS Xs e a fV lV) = DV from hDV, show wrap64 (cdtS Xs e a fV lV) = CV from hCV] at HTG
 clear hDV hCV
 obtain ⟨E, hE⟩ : ∃ E, lgE g L G Xs e = E := ⟨_, rfl⟩
 rw [hE] at HCE
 obtain ⟨K, hK⟩ : ∃ K, clE g.cy g.cm g.cp p = K := ⟨_, rfl⟩
 rw [hK] at HDF HDL
 by_cases hE0 : E = 0
 ·have z1 : (E != 0) = false := by simp [hE0]
  have hkn : knE g L G Xs e a = acE G e a := by unfold knE; rw [hE, if_pos hE0]
  rw [hkn] at HCB
  obtain ⟨F, hF⟩ : ∃ F, acE G e a = F := ⟨_, rfl⟩
  rw [hF] at HCB
  by_cases hK0 : K = 0
  ·have z2 : (K != 0) = false := by simp [hK0]
   have HTE : Hid (tuE g L G Xs e a p = F) := Lib.hid (by unfold tuE; rw [hE, if_pos hE0, hK, if_pos hK0, hF])
   rw [HTE.out] at HTB HTG ⊢
   clear hK0 hK hE hkn hF
   subst hE0
   by_cases hF0 : F = 0
   ·have z3 : (F != 0) = false := by simp [hF0]
    have HF0 := Lib.hid hF0
    obtain ⟨t1, t2⟩ := HTG.out hF0
    rw [t1, t2]
    clear hF0 t1 t2
    go_enter Tryz.func34, Tryz.ntmps34
    go_wp2_with (first
     | (clear HM1; refine wpList_load_is rfl 29 _ rfl (.pointer (some ⟨s0, 0, none⟩)) rfl GV (HLG.out _ HBC.out) ?_)
     | (clear HM2; refine wpList_load_is rfl 29 _ rfl (.pointer (some ⟨s0, 0, none⟩)) rfl GV (HLG.out _ HBC.out) ?_)
     | (go_at_call 71; refine (HCE.out _ HBC.out).mono ?_; rintro r w3 ⟨rfl, hb⟩; have hB3 := Lib.hid (HBC.out.trans (hb.mono HBC.out.size)); clear hb HBC; have HBC := hB3; clear hB3; obtain ⟨q1, q2, q3⟩ := HC20.out _ HBC.out)
     | (go_at_call 38; refine (HDF.out _).mono ?_; rintro r w3 ⟨rfl, hb⟩; have hB3 := Lib.hid (HBC.out.trans (hb.mono HBC.out.size)); clear hb HBC; have HBC := hB3; clear hB3)
     | (go_at_call 64; refine (HCB.out _ HBC.out).mono ?_; rintro r w3 ⟨rfl, hb⟩; have hB3 := Lib.hid (HBC.out.trans (hb.mono HBC.out.size)); clear hb HBC; have HBC := hB3; clear hB3; obtain ⟨q1, q2, q3⟩ := HC20.out _ HBC.out)
     | (go_at_call 39; refine (HDL.out _).mono ?_; rintro r w3 ⟨rfl, hb⟩; have hB3 := Lib.hid (HBC.out.trans (hb.mono HBC.out.size)); clear hb HBC; have HBC := hB3; clear hB3)
     | (go_at_call 65; refine (HSU.out _ HBC.out).mono ?_; rintro r w3 ⟨rfl, hb⟩; have hB3 := Lib.hid (HBC.out.trans (hb.mono HBC.out.size)); clear hb HBC; have HBC := hB3; clear hB3))
    go_ret3
    exact ⟨by first | rfl | simp [HF0.out], by have h9 := HBW.out _ HBC.out; first | exact h9 | (rw [← HS0.out]; exact h9)⟩
   ·have z3 : (F != 0) = true := by simp [hF0]
    obtain ⟨t1, t2⟩ := HTB.out hF0
    rw [t1, t2]
    clear hF0 t1 t2
    go_enter Tryz.func34, Tryz.ntmps34
    go_wp2_with (first
     | (clear HM1; refine wpList_load_is rfl 29 _ rfl (.pointer (some ⟨s0, 0, none⟩)) rfl GV (HLG.out _ HBC.out) ?_)
     | (clear HM2; refine wpList_load_is rfl 29 _ rfl (.pointer (some ⟨s0, 0, none⟩)) rfl GV (HLG.out _ HBC.out) ?_)
     | (go_at_call 71; refine (HCE.out _ HBC.out).mono ?_; rintro r w3 ⟨rfl, hb⟩; have hB3 := Lib.hid (HBC.out.trans (hb.mono HBC.out.size)); clear hb HBC; have HBC := hB3; clear hB3; obtain ⟨q1, q2, q3⟩ := HC20.out _ HBC.out)
     | (go_at_call 38; refine (HDF.out _).mono ?_; rintro r w3 ⟨rfl, hb⟩; have hB3 := Lib.hid (HBC.out.trans (hb.mono HBC.out.size)); clear hb HBC; have HBC := hB3; clear hB3)
     | (go_at_call 64; refine (HCB.out _ HBC.out).mono ?_; rintro r w3 ⟨rfl, hb⟩; have hB3 := Lib.hid (HBC.out.trans (hb.mono HBC.out.size)); clear hb HBC; have HBC := hB3; clear hB3; obtain ⟨q1, q2, q3⟩ := HC20.out _ HBC.out))
    go_ret3
    exact ⟨by first | rfl | simp, by have h9 := HBW.out _ HBC.out; first | exact h9 | (rw [← HS0.out]; exact h9)⟩
  ·have z2 : (K != 0) = true := by simp [hK0]
   have HTE : Hid (tuE g L G Xs e a p = 2) := Lib.hid (by unfold tuE; rw [hE, if_pos hE0, hK, if_neg hK0])
   obtain ⟨t1, t2⟩ := HTB.out (by rw [HTE.out]; decide)
   rw [HTE.out, t1, t2]
   clear hK0 hK hE t1 t2 hkn hF
   subst hE0
   go_enter Tryz.func34, Tryz.ntmps34
   go_wp2_with (first
    | (clear HM1; refine wpList_load_is rfl 29 _ rfl (.pointer (some ⟨s0, 0, none⟩)) rfl GV (HLG.out _ HBC.out) ?_)
    | (go_at_call 71; refine (HCE.out _ HBC.out).mono ?_; rintro r w3 ⟨rfl, hb⟩; have hB3 := Lib.hid (HBC.out.trans (hb.mono HBC.out.size)); clear hb HBC; have HBC := hB3; clear hB3; obtain ⟨q1, q2, q3⟩ := HC20.out _ HBC.out)
    | (go_at_call 38; refine (HDF.out _).mono ?_; rintro r w3 ⟨rfl, hb⟩; have hB3 := Lib.hid (HBC.out.trans (hb.mono HBC.out.size)); clear hb HBC; have HBC := hB3; clear hB3))
   go_ret3
   exact ⟨by first | rfl | simp, by have h9 := HBW.out _ HBC.out; first | exact h9 | (rw [← HS0.out]; exact h9)⟩
 ·have z1 : (E != 0) = true := by simp [hE0]
  have HTE : Hid (tuE g L G Xs e a p = E) := Lib.hid (by unfold tuE; rw [hE, if_neg hE0])
  obtain ⟨t1, t2⟩ := HTB.out (by rw [HTE.out]; exact hE0)
  rw [HTE.out, t1, t2]
  clear hE hE0 t1 t2
  go_enter Tryz.func34, Tryz.ntmps34
  go_wp2_with (first
   | (clear HM1; refine wpList_load_is rfl 29 _ rfl (.pointer (some ⟨s0, 0, none⟩)) rfl GV (HLG.out _ HBC.out) ?_)
   | (go_at_call 71; refine (HCE.out _ HBC.out).mono ?_; rintro r w3 ⟨rfl, hb⟩; have hB3 := Lib.hid (HBC.out.trans (hb.mono HBC.out.size)); clear hb HBC; have HBC := hB3; clear hB3; obtain ⟨q1, q2, q3⟩ := HC20.out _ HBC.out))
  go_ret3
  exact ⟨by first | rfl | simp, by have h9 := HBW.out _ HBC.out; first | exact h9 | (rw [← HS0.out]; exact h9)⟩
set_option maxRecDepth 20000 in
set_option maxHeartbeats 1600000 in
theorem rsameb_any (A B : Option Addr) (c d : Nat) (zs ys : List Bal) (w : World) (hz : BalAt w A zs) (hy : BalAt w B ys) (hl : zs.length ≤ 100000) (hl2 : ys.length ≤ 100000) :
  Calls Tryz.prog 37 #[.slice A zs.length c, .slice B ys.length d] w fun e w' => e = .returned (.bool (decide (zs = ys))) ∧ Below w.heap.size w w' := by
 have hB := Below.refl w.heap.size w
 obtain ⟨n, hn⟩ : ∃ n, zs.length = n := ⟨_, rfl⟩
 obtain ⟨m, hm⟩ : ∃ m, ys.length = m := ⟨_, rfl⟩
 rw [hn] at hl ⊢
 rw [hm] at hl2 ⊢
 by_cases hnm : n = m
 ·subst hnm
  have HN := Lib.hid hn
  have HM := Lib.hid hm
  have HZ := Lib.hid hz
  have HY := Lib.hid hy
  clear hn hm hz hy
  have hnn : ((n : Int) != (n : Int)) = false := by simp
  go_enter Tryz.func37, Tryz.ntmps37
  go_wp2_with fail
  go_loopg [5] n (fun kx s5 wr => ∃ k : Nat, s5 = .int .i64 k ∧ k ≤ n ∧ n - k ≤ kx ∧ Hid (zs.take k = ys.take k) ∧ Below w.heap.size w wr)
  case atStart => exact ⟨0, rfl, by omega, by omega, Lib.hid (by simp), hB⟩
  case round =>
   clear hB
   obtain ⟨k, rfl, hk, hkx, HT, hB⟩ := hrel
   by_cases hlt : k < n
   ·have hltz : (k : Int) < (n : Int) := by omega
    obtain ⟨b, off, rfl, hbw, hcs⟩ := HZ.out (by rw [HN.out]; omega)
    obtain ⟨b2, off2, rfl, hbw2, hcs2⟩ := HY.out (by rw [HM.out]; omega)
    obtain ⟨c0, c1⟩ := (hcs k (by rw [HN.out]; exact hlt)).up hB hbw
    obtain ⟨d0, d1⟩ := (hcs2 k (by rw [HM.out]; exact hlt)).up hB hbw2
    have ht1 := take_succ_getD (d := bal0) (L := zs) (i := k) (by rw [HN.out]; exact hlt)
    have ht2 := take_succ_getD (d := bal0) (L := ys) (i := k) (by rw [HM.out]; exact hlt)
    generalize zs.getD k bal0 = x at *
    generalize ys.getD k bal0 = y at *
    by_cases hxy : x = y
    ·subst hxy
     have HT2 : Hid (zs.take (k + 1) = ys.take (k + 1)) := Lib.hid (by rw [ht1, ht2, HT.out])
     clear ht1 ht2 hcs hcs2
     go_wp2_with fail
     go_quiet (fail)
     replace hB := below_drewN hB nq
     generalize World.drewN _ nq = W1 at *
     go_wp2_with fail
     go_roundg (n - (k + 1))
     case measure => omega
     case rel => exact ⟨k + 1, by go_num, by omega, by omega, HT2, hB⟩
    ·have hno : Hid (decide (zs = ys) = false) := Lib.hid (decide_eq_false fun e => by
      rw [e, ht2] at ht1
      have := List.append_cancel_left ht1
      simp at this; exact hxy this.symm)
     have hne : x.acct ≠ y.acct ∨ (x.acct = y.acct ∧ x.amt ≠ y.amt) := by
      by_cases h1 : x.acct = y.acct
      ·exact .inr ⟨h1, fun h2 => hxy (by cases x; cases y; simp at h1 h2; rw [h1, h2])⟩
      ·exact .inl h1
     clear ht1 ht2 hcs hcs2 hxy
     rcases hne with h1 | ⟨h1, h2⟩
     ·have q1 : (x.acct == y.acct) = false := by simp [h1]
      clear h1
      go_wp2_with fail
      go_quiet (fail)
      replace hB := below_drewN hB nq
      generalize World.drewN _ nq = W1 at *
      go_wp2_with fail
      go_ret
      exact ⟨by rw [hno.out]; rfl, hB⟩
     ·have q1 : (x.acct == y.acct) = true := by simp [h1]
      have q2 : (x.amt == y.amt) = false := by simp [h2]
      clear h1 h2
      go_wp2_with fail
      go_quiet (fail)
      replace hB := below_drewN hB nq
      generalize World.drewN _ nq = W1 at *
      go_wp2_with fail
      go_ret
      exact ⟨by rw [hno.out]; rfl, hB⟩
   ·obtain rfl : k = n := by omega
    have hltz : ¬ (k : Int) < (k : Int) := by omega
    have hyes : Hid (decide (zs = ys) = true) := Lib.hid (decide_eq_true (by have h := HT.out; rwa [List.take_of_length_le (by rw [HN.out]; omega), List.take_of_length_le (by rw [HM.out]; omega)] at h))
    go_wp2_with fail
    go_ret
    exact ⟨by rw [hyes.out]; rfl, hB⟩
 ·have hno : Hid (decide (zs = ys) = false) := Lib.hid (decide_eq_false fun e => hnm (by rw [← hn, ← hm, e]))
  have hnn : ((n : Int) != (m : Int)) = true := by simp; omega
  clear hn hm hz hy
  go_enter Tryz.func37, Tryz.ntmps37
  go_wp2_with fail
  go_ret
  exact ⟨by rw [hno.out]; rfl, hB⟩
def trB (g : Grp) (L : List Acc) (G : List Ent) (Xs : List Etl) (e hi : Int) : List Bal := if lgE g L G Xs e = 0 then trL (G.getD e.toNat ent0).L Xs e hi else []
def TrQ (M : List Bal) (E : Int) (r : Ending) (W : World) : Prop := ∃ A c, r = .returned (.tuple #[.slice A M.length c, .int .i64 E]) ∧ BalAt W A M
theorem TrQ.nil {E : Int} {W : World} : TrQ [] E (.returned (.tuple #[.slice none 0 0, .int .i64 E])) W := ⟨none, 0, rfl, fun h => absurd h (by decide)⟩
theorem TrQ.of {M : List Bal} {W : World} {v : Value} {base : Nat} (h : OwnB 73 W base v M) : TrQ M 0 (.returned (.tuple #[v, .int .i64 0])) W := by
 obtain ⟨A, c, rfl, h2⟩ := h.slb
 exact ⟨A, c, rfl, h2⟩
theorem Srt.lt {L : List Acc} (h : Srt L) : L.Pairwise (fun x y => x.code < y.code) := by
 rw [List.pairwise_iff_getElem]
 intro i j hi hj hij
 have := h.mono i j hij hj
 rw [List.getD_eq_getElem?_getD, List.getD_eq_getElem?_getD, List.getElem?_eq_getElem hi, List.getElem?_eq_getElem hj] at this
 exact this
def upTo (L : List Acc) (c : Int) : List Acc := L.filter fun a => decide (a.code < c)
theorem upTo_big {c : Int} : ∀ {L : List Acc}, (∀ a ∈ L, c ≤ a.code) → upTo L c = []
 | L, h => by unfold upTo; rw [List.filter_eq_nil_iff]; intro a ha; have := h a ha; simp; omega
theorem upTo_all {L : List Acc} {c : Int} (h : ∀ a ∈ L, a.code < c) : upTo L c = L := by unfold upTo; rw [List.filter_eq_self]; intro a ha; simp [h a ha]
theorem upTo_step {c : Int} : ∀ {L : List Acc}, L.Pairwise (fun x y => x.code < y.code) → upTo L (c + 1) = upTo L c ++ (fnd L c).toList
 | [], _ => rfl
 | x :: L, h => by
  rw [List.pairwise_cons] at h
  obtain ⟨h1, h2⟩ := h
  have ih := upTo_step (c := c) h2
  rcases Int.lt_trichotomy x.code c with h3 | h3 | h3
  ·have e1 : fnd (x :: L) c = fnd L c := by
    unfold fnd
    rw [List.find?_cons, decide_eq_false (by omega : ¬ x.code = c)]
   rw [e1]
   unfold upTo at ih ⊢
   rw [List.filter_cons_of_pos (by simp; omega), List.filter_cons_of_pos (by simp; omega), ih]; rfl
  ·have e1 : fnd (x :: L) c = some x := by unfold fnd; rw [List.find?_cons]; simp [h3]
   have e2 : upTo (x :: L) c = [] := upTo_big fun a ha => by
    rcases List.mem_cons.1 ha with rfl | ha
    ·omega
    ·have := h1 a ha; omega
   have e3 : upTo L (c + 1) = [] := upTo_big fun a ha => by have := h1 a ha; omega
   rw [e1, e2]
   unfold upTo at e3 ⊢
   rw [List.filter_cons_of_pos (by simp; omega), e3]; rfl
  ·have e1 : fnd (x :: L) c = none := by
    rw [fnd_none]
    intro a ha
    rcases List.mem_cons.1 ha with rfl | ha
    ·omega
    ·have := h1 a ha; omega
   have e2 : ∀ d : Int, d ≤ c + 1 → upTo (x :: L) d = [] := fun d hd => upTo_big fun a ha => by
    rcases List.mem_cons.1 ha with rfl | ha
    ·omega
    ·have := h1 a ha; omega
   rw [e1, e2 _ (by omega), e2 _ (by omega)]; rfl
theorem rowsB_app {X Y : List Acc} {f : Int → Int} : rowsB (X ++ Y) f = rowsB X f ++ rowsB Y f := by unfold rowsB pick0; rw [List.map_append, List.filter_append]
theorem rows_none {L : List Acc} {f : Int → Int} {c : Int} (hp : L.Pairwise (fun x y => x.code < y.code)) (h : fnd L c = none) : rowsB (upTo L (c + 1)) f = rowsB (upTo L c) f := by
 rw [upTo_step hp, h, Option.toList_none, List.append_nil]
theorem rows_some {L : List Acc} {f : Int → Int} {c : Int} (hp : L.Pairwise (fun x y => x.code < y.code)) (h : (fnd L c).isSome = true) : rowsB (upTo L (c + 1)) f = if f c = 0 then rowsB (upTo L c) f else rowsB (upTo L c) f ++ [⟨c, f c⟩] := by
 obtain ⟨a, ha⟩ := Option.isSome_iff_exists.1 h
 have hc := (fnd_some ha).2
 rw [upTo_step hp, ha, rowsB_app, Option.toList_some]
 have h1 : rowsB [a] f = if f c = 0 then [] else [⟨c, f c⟩] := by
  unfold rowsB pick0
  rw [List.map_cons, List.map_nil, List.filter_cons, hc]
  by_cases h0 : f c = 0 <;> simp [h0]
 rw [h1]
 split
 ·rw [List.append_nil]
 ·rfl
theorem ens_chart {L : List Acc} {R : List Int} {G : List Ent} (h : ensP L R G = true) {i : Nat} (hi : i < G.length) : codesB (G.getD i ent0).L = true := by
 unfold ensP at h
 simp only [Bool.and_eq_true, decide_eq_true_eq, Bool.not_eq_true'] at h
 have h1 := allTo_is.1 h.2.2.2 i hi
 unfold rowP enpB at h1
 simp only [Bool.and_eq_true] at h1
 have h2 := h1.2.2.2.1
 unfold mvB at h2
 simp only [Bool.and_eq_true] at h2
 have h3 := h2.2.1
 unfold vB at h3
 simp only [Bool.and_eq_true] at h3
 exact h3.1.1.1.2
theorem grp_chart {g : Grp} {L : List Acc} {G : List Ent} (h : grpP g L G = true) {i : Nat} (hi : i < G.length) : codesB (G.getD i ent0).L = true := by
 unfold grpP at h
 simp only [Bool.and_eq_true] at h
 exact ens_chart h.2.2.2.2 hi
theorem trL_len (L : List Acc) (Xs : List Etl) (e hi : Int) : (trL L Xs e hi).length ≤ L.length := rowsB_len
theorem upTo_len (L : List Acc) (f : Int → Int) (c : Int) : (rowsB (upTo L c) f).length ≤ L.length := Nat.le_trans rowsB_len (List.length_filter_le _ _)
set_option maxRecDepth 100000 in
set_option maxHeartbeats 12800000 in
theorem ltrial_any (g : Grp) (L : List Acc) (G : List Ent) (A : Option Addr) (c : Nat) (Xs : List Etl) (e hi : Int) (w : World) (h : LgX w g L G A c Xs) :
  Calls Tryz.prog 35 #[grpV g, .slice A Xs.length c, .int .i64 e, .int .i64 hi] w fun r w' => TrQ (trB g L G Xs e hi) (lgE g L G Xs e) r w' ∧ Below w.heap.size w w' := by
 obtain ⟨GV, hGV⟩ : ∃ GV, GV = grpV g := ⟨_, rfl⟩
 obtain ⟨gs, hgs⟩ : ∃ gs, (grpC g).toArray = gs := ⟨_, rfl⟩
 obtain ⟨s0, hs0⟩ : ∃ s0, w.heap.size = s0 := ⟨_, rfl⟩
 obtain ⟨w2, hw2⟩ : ∃ w2, w.alloc (.cells gs 29) = w2 := ⟨_, rfl⟩
 have HGB : Hid (Wh 29 w2 s0 (grpC g)) := Lib.hid (by rw [← hw2, ← hgs, ← hs0]; exact Wh.new w _ _)
 have HB2 : Hid (Below w.heap.size w w2) := Lib.hid (by rw [← hw2]; exact below_alloc_new _)
 have HS0 := Lib.hid hs0
 have HLG : Hid (∀ W, Below w2.heap.size w2 W → (Instr.loadAt 29 (.pointer (some ⟨s0, 0, none⟩))).run Tryz.prog W = .ok GV W) := Lib.hid (fun W h => by rw [hGV, grpV_is]; exact (HGB.out.up h).rg.load 0 29 (grpC g) rfl _ Tryz.underlying29 rfl (by kernel_rfl))
 have HBC : Hid (Below w2.heap.size w2 w2) := Lib.hid (Below.refl _ _)
 have HBW : Hid (∀ W, Below w2.heap.size w2 W → Below w.heap.size w W) := Lib.hid (fun W h => HB2.out.trans (h.mono HB2.out.size))
 have HCE := Lib.hid (fun W (hb : Below w2.heap.size w2 W) => lce_any g L G A c Xs e W ((h.up HB2.out).up hb))
 have HBA := Lib.hid (fun W (hb : Below w2.heap.size w2 W) a => lbal_any A c Xs e a hi W ((h.up HB2.out).up hb).hz ((h.up HB2.out).up hb).hzs h.zn h.l5)
 have hGS : GV = .agg gs := by rw [hGV, grpV_is, hgs]
 rw [← hGV] at HCE ⊢
 rw [hGS]
 clear hGS hGV
 have HC20 : Hid (∀ W, Below w2.heap.size w2 W → W.cell? ⟨s0, 20, none⟩ = some (.slice g.E g.m g.d)) := Lib.hid (fun W hb => (HGB.out.up hb).at 20 _ rfl)
 have HM1 : True := trivial
 obtain ⟨nx, hnx⟩ : ∃ nx, Xs.length = nx := ⟨_, rfl⟩
 rw [hnx] at HCE HBA ⊢
 obtain ⟨E, hE⟩ : ∃ E, lgE g L G Xs e = E := ⟨_, rfl⟩
 rw [hE] at HCE ⊢
 by_cases hE0 : E = 0
 ·obtain ⟨hjr, he0, he1⟩ := lgE_zero (hE.trans hE0)
  obtain ⟨j, hj⟩ : ∃ j : Nat, e = (j : Int) := ⟨e.toNat, by omega⟩
  subst hj
  have hjm : j < g.m := by omega
  have hjG : j < G.length := by rw [h.hk.lg]; exact hjm
  have hcod := grp_chart (jrn_grp hjr).1 hjG
  have HTR : Hid (trB g L G Xs (j : Int) hi = rowsB (G.getD j ent0).L (trW Xs (j : Int) hi)) := Lib.hid (by unfold trB; rw [hE, if_pos hE0, Int.toNat_natCast]; rfl)
  have z1 : (E != 0) = false := by simp [hE0]
  obtain ⟨eb, eoff, hEE, hew, he5⟩ := ent_at (h.up HB2.out).hk.he hjG
  have hmem : G.getD j ent0 ∈ G := getD_mem_acc hjG
  have hek := ((h.up HB2.out).hk.hk _ hmem)
  have hen := (h.hs.e _ hmem).1
  generalize G.getD j ent0 = ey at *
  have HF2 : Hid (∀ W, Below w2.heap.size w2 W → W.cell? ⟨eb, eoff + j * 5 + 2, none⟩ = some (.slice ey.A ey.n ey.c)) := Lib.hid (fun W hb => (hb.cell (p := ⟨eb, eoff + j * 5 + 2, none⟩) hew).trans he5.c2)
  have HEZ := Lib.hid hek.hz
  have HEL := Lib.hid hek.ln
  have HEN : Hid (ey.n ≤ 60) := Lib.hid hen
  have hjz : (j : Int) < (g.m : Int) := by omega
  have hj0 : (0 : Int) ≤ (j : Int) := by omega
  rw [hEE] at HC20
  obtain ⟨f, hf⟩ : ∃ f : Int → Int, f = trW Xs (j : Int) hi := ⟨_, rfl⟩
  rw [← hf] at HTR
  have HFW : Hid (∀ x, f x = wrap64 (balS Xs (j : Int) x hi)) := Lib.hid (fun x => by rw [hf]; rfl)
  have HBF : Hid (∀ W a, Below w2.heap.size w2 W → Calls Tryz.prog 63 #[.slice A nx c, .int .i64 (j : Int), .int .i64 a, .int .i64 hi] W fun r w' => r = .returned (.int .i64 (f a)) ∧ Below W.heap.size W w') := Lib.hid (fun W a hb => by rw [HFW.out]; exact HBA.out W hb a)
  obtain ⟨EL, hEL⟩ : ∃ EL, ey.L = EL := ⟨_, rfl⟩
  rw [hEL] at HTR HEZ HEL
  obtain ⟨en, hen2⟩ : ∃ en, ey.n = en := ⟨_, rfl⟩
  rw [hen2] at HEL HF2 HEN
  obtain ⟨ea, hea⟩ : ∃ ea, ey.A = ea := ⟨_, rfl⟩
  rw [hea] at HEZ HF2
  clear he5 hek hen hmem hEE hew he0 he1 hE h hjG hcod hjr hf HBA HFW hgs hnx hEL hen2 hea
  subst hE0
  obtain ⟨i0, hi9, hz1, hz2, hz3⟩ := info_parts infoI_bal
  go_enter Tryz.func35, Tryz.ntmps35
  go_wp2_with (first
   | (clear HM1; refine wpList_load_is rfl 29 _ rfl (.pointer (some ⟨s0, 0, none⟩)) rfl GV (HLG.out _ HBC.out) ?_)
   | (go_at_call 61; refine (HCE.out _ HBC.out).mono ?_; rintro r w3 ⟨rfl, hb⟩; have hB3 := Lib.hid (HBC.out.trans (hb.mono HBC.out.size)); clear hb HBC; have HBC := hB3; clear hB3; have C20 := HC20.out _ HBC.out; have F2 := HF2.out _ HBC.out))
  go_loopg [11, 29] en (fun kx s11 s29 wr => ∃ (k : Nat), s29 = .int .i64 (k : Int) ∧ k ≤ en ∧ en - k ≤ kx ∧ Hid (OwnB 73 wr w2.heap.size s11 (rowsB (EL.take k) f)) ∧ Hid (Below w2.heap.size w2 wr))
  case atStart => exact ⟨0, rfl, by omega, by omega, Lib.hid OwnB.nil, HBC⟩
  case round =>
   clear HBC
   obtain ⟨k, rfl, hk, hkx, hO, HBC⟩ := hrel
   by_cases hlt : k < en
   ·have hltz : (k : Int) < (en : Int) := by omega
    obtain ⟨ba, offa, rfl, hbwa, hcsa⟩ := HEZ.out (by rw [HEL.out]; omega)
    have hen100 := HEN.out
    have a4 := (hcsa k (by rw [HEL.out]; exact hlt)).up HBC.out hbwa
    have htk := rowsB_succ (L := EL) (f := f) (k := k) (by rw [HEL.out]; exact hlt)
    have hln : Hid ((rowsB (EL.take k) f).length ≤ 100000000) := Lib.hid (by have := rowsB_len (L := EL.take k) (f := f); rw [List.length_take] at this; omega)
    generalize EL.getD k acc0 = x at *
    obtain ⟨c0, c1, c2, c3⟩ := a4
    obtain ⟨W5, hW5⟩ : ∃ W5, wr.alloc (.cells #[.int .i64 x.code, .int .i64 x.kind, .int .i64 x.basis, .int .i64 x.par] 118) = W5 := ⟨_, rfl⟩
    have hx5 : Wh 118 W5 wr.heap.size [.int .i64 x.code, .int .i64 x.kind, .int .i64 x.basis, .int .i64 x.par] := by rw [← hW5]; exact Wh.new wr _ _
    have hB5 : Below w2.heap.size w2 W5 := by rw [← hW5]; exact below_new HBC.out _
    have hO5 : OwnB 73 W5 w2.heap.size u11 (rowsB (EL.take k) f) := by rw [← hW5]; exact hO.out.alloc _
    have HX5 := Lib.hid hx5
    have HO5 := Lib.hid hO5
    have hB6 := Lib.hid hB5
    have x0 := hx5.at 0 _ rfl
    clear HBC hcsa hx5 hB5 hO5
    have HBC := hB6
    clear hB6
    have HC := Lib.hid (HBF.out W5 x.code HBC.out)
    obtain ⟨S, hS⟩ : ∃ S, f x.code = S := ⟨_, rfl⟩
    rw [hS] at htk HC
    by_cases h0 : S = 0
    ·rw [if_pos h0] at htk
     have e0 : (S != 0) = false := by simp [h0]
     have HTK := Lib.hid htk
     clear htk h0 hS
     go_wp2_with (first
      | (go_at_call 63; refine HC.out.mono ?_; rintro r w3 ⟨rfl, hb⟩; have HO9 := Lib.hid (HO5.out.up hb); have x9 := (HX5.out.up hb).at 0 _ rfl; have hB3 := Lib.hid (HBC.out.trans (hb.mono HBC.out.size)); clear hb HBC; have HBC := hB3; clear hB3))
     go_roundg (en - (k + 1))
     case measure => omega
     case rel => exact ⟨k + 1, by go_num, by omega, by omega, Lib.hid (by rw [HTK.out]; exact HO9.out), HBC⟩
    ·rw [if_neg h0] at htk
     have e0 : (S != 0) = true := by simp [h0]
     have HTK := Lib.hid htk
     clear htk h0 hS
     go_wp2_with (first
      | (go_at_call 63; refine HC.out.mono ?_; rintro r w3 ⟨rfl, hb⟩; have HO9 := Lib.hid (HO5.out.up hb); have x9 := (HX5.out.up hb).at 0 _ rfl; have hB3 := Lib.hid (HBC.out.trans (hb.mono HBC.out.size)); clear hb HBC; have HBC := hB3; clear hB3)
      | (at_builtin; refine wpList_append_bg _ rfl (.tmp 41) (.tmp 46) 69 rfl w2.heap.size 73 i0 16 Tryz.underlying69 hi9 hz1 hz2 hz3 (by omega) u11 _ (by rfl) HO9.out x.code S _ 1 (by first | rfl | simp) rfl hln.out HBC.out.size ?_; intro v2 w4 ho2 hb2; have HO4 : Hid (OwnB 73 w4 w2.heap.size v2 (rowsB (EL.take (k + 1)) f)) := Lib.hid (by rw [HTK.out]; exact ho2.out); have HBN := Lib.hid (HBC.out.trans hb2); clear ho2 hb2))
     go_roundg (en - (k + 1))
     case measure => omega
     case rel => exact ⟨k + 1, by go_num, by omega, by omega, HO4, HBN⟩
   ·obtain rfl : k = en := by omega
    have hltz : ¬ (k : Int) < (k : Int) := by omega
    have HTQ : Hid (TrQ (trB g L G Xs (j : Int) hi) 0 (.returned (.tuple #[u11, .int .i64 0])) wr) := Lib.hid (by rw [HTR.out]; have h9 := hO.out; rw [List.take_of_length_le (by rw [HEL.out]; exact Nat.le_refl _)] at h9; exact TrQ.of h9)
    clear hO
    go_wp2_with fail
    go_ret2
    exact ⟨HTQ.out, by have h9 := HBW.out _ HBC.out; first | exact h9 | (rw [← HS0.out]; exact h9)⟩
 ·have z1 : (E != 0) = true := by simp [hE0]
  have HTR : Hid (trB g L G Xs e hi = []) := Lib.hid (by unfold trB; rw [hE, if_neg hE0])
  rw [HTR.out]
  clear hE hE0 h HBA
  go_enter Tryz.func35, Tryz.ntmps35
  go_wp2_with (first
   | (clear HM1; refine wpList_load_is rfl 29 _ rfl (.pointer (some ⟨s0, 0, none⟩)) rfl GV (HLG.out _ HBC.out) ?_)
   | (go_at_call 61; refine (HCE.out _ HBC.out).mono ?_; rintro r w3 ⟨rfl, hb⟩; have hB3 := Lib.hid (HBC.out.trans (hb.mono HBC.out.size)); clear hb HBC; have HBC := hB3; clear hB3))
  go_ret2
  exact ⟨TrQ.nil, by have h9 := HBW.out _ HBC.out; first | exact h9 | (rw [← HS0.out]; exact h9)⟩
set_option maxRecDepth 100000 in
set_option maxHeartbeats 12800000 in
theorem r14trial_any (g : Grp) (L : List Acc) (G : List Ent) (A : Option Addr) (c : Nat) (Xs : List Etl) (e hi : Int) (w : World) (h : LgX w g L G A c Xs) (hlo : ∀ p ∈ Xs, -9223372036854775808 ≤ p.1.day) :
  Calls Tryz.prog 36 #[grpV g, .slice A Xs.length c, .int .i64 e, .int .i64 hi] w fun r w' => TrQ (trB g L G Xs e hi) (lgE g L G Xs e) r w' ∧ Below w.heap.size w w' := by
 obtain ⟨GV, hGV⟩ : ∃ GV, GV = grpV g := ⟨_, rfl⟩
 obtain ⟨gs, hgs⟩ : ∃ gs, (grpC g).toArray = gs := ⟨_, rfl⟩
 obtain ⟨s0, hs0⟩ : ∃ s0, w.heap.size = s0 := ⟨_, rfl⟩
 obtain ⟨w2, hw2⟩ : ∃ w2, w.alloc (.cells gs 29) = w2 := ⟨_, rfl⟩
 have HGB : Hid (Wh 29 w2 s0 (grpC g)) := Lib.hid (by rw [← hw2, ← hgs, ← hs0]; exact Wh.new w _ _)
 have HB2 : Hid (Below w.heap.size w w2) := Lib.hid (by rw [← hw2]; exact below_alloc_new _)
 have HS0 := Lib.hid hs0
 have HLG : Hid (∀ W, Below w2.heap.size w2 W → (Instr.loadAt 29 (.pointer (some ⟨s0, 0, none⟩))).run Tryz.prog W = .ok GV W) := Lib.hid (fun W h => by rw [hGV, grpV_is]; exact (HGB.out.up h).rg.load 0 29 (grpC g) rfl _ Tryz.underlying29 rfl (by kernel_rfl))
 have HBC : Hid (Below w2.heap.size w2 w2) := Lib.hid (Below.refl _ _)
 have HBW : Hid (∀ W, Below w2.heap.size w2 W → Below w.heap.size w W) := Lib.hid (fun W h => HB2.out.trans (h.mono HB2.out.size))
 have HCE := Lib.hid (fun W (hb : Below w2.heap.size w2 W) => r14check_any g L G A c Xs e W ((h.up HB2.out).up hb))
 have HBA := Lib.hid (fun W (hb : Below w2.heap.size w2 W) a => r14balance_any g L G A c Xs e a hi W ((h.up HB2.out).up hb) hlo)
 have hGS : GV = .agg gs := by rw [hGV, grpV_is, hgs]
 rw [← hGV] at HCE HBA ⊢
 rw [hGS]
 clear hGS hGV
 have HC20 : Hid (∀ W, Below w2.heap.size w2 W → W.cell? ⟨s0, 20, none⟩ = some (.slice g.E g.m g.d)) := Lib.hid (fun W hb => (HGB.out.up hb).at 20 _ rfl)
 have HM1 : True := trivial
 obtain ⟨nx, hnx⟩ : ∃ nx, Xs.length = nx := ⟨_, rfl⟩
 rw [hnx] at HCE HBA ⊢
 obtain ⟨E, hE⟩ : ∃ E, lgE g L G Xs e = E := ⟨_, rfl⟩
 rw [hE] at HCE ⊢
 by_cases hE0 : E = 0
 ·obtain ⟨hjr, he0, he1⟩ := lgE_zero (hE.trans hE0)
  obtain ⟨j, hj⟩ : ∃ j : Nat, e = (j : Int) := ⟨e.toNat, by omega⟩
  subst hj
  have hjm : j < g.m := by omega
  have hjG : j < G.length := by rw [h.hk.lg]; exact hjm
  have hcod := grp_chart (jrn_grp hjr).1 hjG
  have HTR : Hid (trB g L G Xs (j : Int) hi = rowsB (G.getD j ent0).L (trW Xs (j : Int) hi)) := Lib.hid (by unfold trB; rw [hE, if_pos hE0, Int.toNat_natCast]; rfl)
  have z1 : (E != 0) = false := by simp [hE0]
  obtain ⟨eb, eoff, hEE, hew, he5⟩ := ent_at (h.up HB2.out).hk.he hjG
  have hmem : G.getD j ent0 ∈ G := getD_mem_acc hjG
  have hek := ((h.up HB2.out).hk.hk _ hmem)
  have hen := (h.hs.e _ hmem).1
  have hkn : ∀ a, (fnd (G.getD j ent0).L a).isSome = true → knE g L G Xs (j : Int) a = 0 := fun a ha => by unfold knE; rw [hE, if_pos hE0]; unfold acE; rw [Int.toNat_natCast, if_pos ha]
  generalize G.getD j ent0 = ey at *
  have HF2 : Hid (∀ W, Below w2.heap.size w2 W → W.cell? ⟨eb, eoff + j * 5 + 2, none⟩ = some (.slice ey.A ey.n ey.c)) := Lib.hid (fun W hb => (hb.cell (p := ⟨eb, eoff + j * 5 + 2, none⟩) hew).trans he5.c2)
  have HEZ := Lib.hid hek.hz
  have HEL := Lib.hid hek.ln
  have HEN : Hid (ey.n ≤ 60) := Lib.hid hen
  have hjz : (j : Int) < (g.m : Int) := by omega
  have hj0 : (0 : Int) ≤ (j : Int) := by omega
  rw [hEE] at HC20
  obtain ⟨f, hf⟩ : ∃ f : Int → Int, f = trW Xs (j : Int) hi := ⟨_, rfl⟩
  rw [← hf] at HTR
  have HFW : Hid (∀ x, f x = wrap64 (balS Xs (j : Int) x hi)) := Lib.hid (fun x => by rw [hf]; rfl)
  have HBF : Hid (∀ W a, Below w2.heap.size w2 W → (fnd ey.L a).isSome = true → Calls Tryz.prog 31 #[GV, .slice A nx c, .int .i64 (j : Int), .int .i64 a, .int .i64 hi] W fun r w' => r = .returned (.tuple #[.int .i64 (f a), .int .i64 0]) ∧ Below W.heap.size W w') := Lib.hid (fun W a hb ha => by have h9 := HBA.out W hb a; unfold lbN at h9; rw [hkn a ha, if_pos rfl] at h9; rw [HFW.out]; exact h9)
  have HSR := codesB_srt hcod
  have HPW := Lib.hid HSR.lt
  have HCW := Lib.hid (fun a (ha : a ∈ ey.L) => codesB_wf hcod ha)
  have HFD := Lib.hid (fun W (h : AccAt W ey.A ey.L) a => rfind_any ey.A ey.c ey.L a W h (by rw [hek.ln]; omega))
  rw [hek.ln] at HFD
  obtain ⟨EL, hEL⟩ : ∃ EL, ey.L = EL := ⟨_, rfl⟩
  rw [hEL] at HTR HEZ HEL HPW HCW HFD HBF
  obtain ⟨en, hen2⟩ : ∃ en, ey.n = en := ⟨_, rfl⟩
  rw [hen2] at HEL HF2 HEN HFD
  obtain ⟨ea, hea⟩ : ∃ ea, ey.A = ea := ⟨_, rfl⟩
  rw [hea] at HEZ HF2 HFD
  have HLN : Hid (∀ cv, (rowsB (upTo EL cv) f).length ≤ 100000000) := Lib.hid (fun cv => by have h8 := upTo_len EL f cv; have h9 := HEL.out; have := HEN.out; omega)
  have HAT : Hid (rowsB (upTo EL 1) f = []) := Lib.hid (by rw [upTo_big (fun a ha => (HCW.out a ha).1)]; rfl)
  have HZZ : Hid (upTo EL 100000 = EL) := Lib.hid (upTo_all fun a ha => by have := (HCW.out a ha).2; omega)
  clear he5 hek hen hmem hEE hew he0 he1 hE h hjG hcod hjr hf HBA HFW hgs hnx hEL hen2 hea hkn HSR
  subst hE0
  obtain ⟨i0, hi9, hz1, hz2, hz3⟩ := info_parts infoI_bal
  go_enter Tryz.func36, Tryz.ntmps36
  go_wp2_with (first
   | (clear HM1; refine wpList_load_is rfl 29 _ rfl (.pointer (some ⟨s0, 0, none⟩)) rfl GV (HLG.out _ HBC.out) ?_)
   | (go_at_call 71; refine (HCE.out _ HBC.out).mono ?_; rintro r w3 ⟨rfl, hb⟩; have hB3 := Lib.hid (HBC.out.trans (hb.mono HBC.out.size)); clear hb HBC; have HBC := hB3; clear hB3))
  go_loopg [11, 12] 100000 (fun kx s11 s12 wr => ∃ (cv : Int), s12 = .int .i64 cv ∧ 1 ≤ cv ∧ cv ≤ 100000 ∧ 100000 - cv ≤ kx ∧ Hid (OwnB 73 wr w2.heap.size s11 (rowsB (upTo EL cv) f)) ∧ Hid (Below w2.heap.size w2 wr))
  case atStart => exact ⟨1, rfl, by omega, by omega, by omega, Lib.hid (by rw [HAT.out]; exact OwnB.nil), HBC⟩
  case round =>
   clear HBC
   obtain ⟨cv, rfl, hc1, hc2, hkx, hO, HBC⟩ := hrel
   have C20 := HC20.out _ HBC.out
   have F2 := HF2.out _ HBC.out
   by_cases hlt : cv ≤ 99999
   ·have hlt1 : decide (cv ≤ 99999) = true := decide_eq_true hlt
    have HCV := Lib.hid hlt
    have hln := Lib.hid (HLN.out cv)
    have HFC := Lib.hid (fun W h => HFD.out W h cv)
    obtain ⟨fa, hfa⟩ : ∃ fa, fndA EL cv = fa := ⟨_, rfl⟩
    rw [hfa] at HFC
    have hrn := rows_none (f := f) (c := cv) HPW.out
    have hrs := rows_some (f := f) (c := cv) HPW.out
    have HBB := Lib.hid (fun W hb (hs : (fnd EL cv).isSome = true) => HBF.out W cv hb hs)
    have hnn : (fnd EL cv).isSome = false → fnd EL cv = none := fun h => by cases h9 : fnd EL cv with
     | none => rfl
     | some y => rw [h9] at h; cases h
    obtain ⟨ob, hob⟩ : ∃ ob, (fnd EL cv).isSome = ob := ⟨_, rfl⟩
    rw [hob] at HFC hrs HBB hnn
    have HRN := Lib.hid hrn
    have HRS := Lib.hid hrs
    have HNN := Lib.hid hnn
    clear hfa hob hlt hrn hrs hnn
    have HM2 : True := trivial
    go_upto_region 9 with (go_at_call 72; refine (HFC.out _ (HEZ.out.up HBC.out)).mono ?_; rintro r w3 ⟨rfl, hb⟩; have hB3 := Lib.hid (HBC.out.trans (hb.mono HBC.out.size)); clear HBC; have HBC := hB3; clear hB3; have HO9 := Lib.hid (hO.out.up hb); clear hb)
    generalize hW5 : World.alloc w3 _ = W5
    have HO5 : Hid (OwnB 73 W5 w2.heap.size u11 (rowsB (upTo EL cv) f)) := Lib.hid (by rw [← hW5]; exact HO9.out.alloc _)
    have hB6 : Hid (Below w2.heap.size w2 W5) := Lib.hid (by rw [← hW5]; exact below_new HBC.out _)
    clear HBC hW5 HO9 C20 F2
    have HBC := hB6
    clear hB6
    cases ob
    ·have HTK := Lib.hid (HRN.out (HNN.out rfl))
     go_wp2_with fail
     go_roundg (100000 - (cv + 1)).toNat
     case measure => have := HCV.out; omega
     case rel => exact ⟨cv + 1, by (have h9 := HCV.out; refine congrArg (Value.int .i64) ?_; first | rfl | (unfold wrap64; omega)), by omega, by have := HCV.out; omega, by have := HCV.out; omega, Lib.hid (by rw [HTK.out]; exact HO5.out), HBC⟩
    ·have htk := HRS.out rfl
     have HB7 := Lib.hid (fun W hb => HBB.out W hb rfl)
     obtain ⟨S, hS⟩ : ∃ S, f cv = S := ⟨_, rfl⟩
     rw [hS] at htk HB7
     by_cases h0 : S = 0
     ·rw [if_pos h0] at htk
      have e0 : (S != 0) = false := by simp [h0]
      have HTK := Lib.hid htk
      clear htk h0 hS
      go_wp2_with (first
       | (clear HM2; refine wpList_load_is rfl 29 _ rfl (.pointer (some ⟨s0, 0, none⟩)) rfl GV (HLG.out _ HBC.out) ?_)
       | (go_at_call 31; refine (HB7.out _ HBC.out).mono ?_; rintro r w3 ⟨rfl, hb⟩; have HO9 := Lib.hid (HO5.out.up hb); have hB3 := Lib.hid (HBC.out.trans (hb.mono HBC.out.size)); clear hb HBC; have HBC := hB3; clear hB3))
      go_roundg (100000 - (cv + 1)).toNat
      case measure => have := HCV.out; omega
      case rel => exact ⟨cv + 1, by (have h9 := HCV.out; refine congrArg (Value.int .i64) ?_; first | rfl | (unfold wrap64; omega)), by omega, by have := HCV.out; omega, by have := HCV.out; omega, Lib.hid (by rw [HTK.out]; exact HO9.out), HBC⟩
     ·rw [if_neg h0] at htk
      have e0 : (S != 0) = true := by simp [h0]
      have HTK := Lib.hid htk
      clear htk h0 hS
      go_wp2_with (first
       | (clear HM2; refine wpList_load_is rfl 29 _ rfl (.pointer (some ⟨s0, 0, none⟩)) rfl GV (HLG.out _ HBC.out) ?_)
       | (go_at_call 31; refine (HB7.out _ HBC.out).mono ?_; rintro r w3 ⟨rfl, hb⟩; have HO9 := Lib.hid (HO5.out.up hb); have hB3 := Lib.hid (HBC.out.trans (hb.mono HBC.out.size)); clear hb HBC; have HBC := hB3; clear hB3)
       | (at_builtin; refine wpList_append_bg _ rfl (.tmp 52) (.tmp 56) 69 rfl w2.heap.size 73 i0 16 Tryz.underlying69 hi9 hz1 hz2 hz3 (by omega) u11 _ (by rfl) HO9.out cv S _ 1 (by first | rfl | simp) rfl hln.out HBC.out.size ?_; intro v2 w4 ho2 hb2; have HO4 : Hid (OwnB 73 w4 w2.heap.size v2 (rowsB (upTo EL (cv + 1)) f)) := Lib.hid (by rw [HTK.out]; exact ho2.out); have HBN := Lib.hid (HBC.out.trans hb2); clear ho2 hb2))
      go_roundg (100000 - (cv + 1)).toNat
      case measure => have := HCV.out; omega
      case rel => exact ⟨cv + 1, by (have h9 := HCV.out; refine congrArg (Value.int .i64) ?_; first | rfl | (unfold wrap64; omega)), by omega, by have := HCV.out; omega, by have := HCV.out; omega, HO4, HBN⟩
   ·obtain rfl : cv = 100000 := by omega
    have hlt1 : decide ((100000 : Int) ≤ 99999) = false := by decide
    have HTQ : Hid (TrQ (trB g L G Xs (j : Int) hi) 0 (.returned (.tuple #[u11, .int .i64 0])) wr) := Lib.hid (by rw [HTR.out]; have h9 := hO.out; rw [HZZ.out] at h9; exact TrQ.of h9)
    clear hO
    go_wp2_with fail
    go_ret2
    exact ⟨HTQ.out, by have h9 := HBW.out _ HBC.out; first | exact h9 | (rw [← HS0.out]; exact h9)⟩
 ·have z1 : (E != 0) = true := by simp [hE0]
  have HTR : Hid (trB g L G Xs e hi = []) := Lib.hid (by unfold trB; rw [hE, if_neg hE0])
  rw [HTR.out]
  clear hE hE0 h HBA
  go_enter Tryz.func36, Tryz.ntmps36
  go_wp2_with (first
   | (clear HM1; refine wpList_load_is rfl 29 _ rfl (.pointer (some ⟨s0, 0, none⟩)) rfl GV (HLG.out _ HBC.out) ?_)
   | (go_at_call 71; refine (HCE.out _ HBC.out).mono ?_; rintro r w3 ⟨rfl, hb⟩; have hB3 := Lib.hid (HBC.out.trans (hb.mono HBC.out.size)); clear hb HBC; have HBC := hB3; clear hB3))
  go_ret2
  exact ⟨TrQ.nil, by have h9 := HBW.out _ HBC.out; first | exact h9 | (rw [← HS0.out]; exact h9)⟩
end Go.Proofs.YthokdplikidhiaaGreat
