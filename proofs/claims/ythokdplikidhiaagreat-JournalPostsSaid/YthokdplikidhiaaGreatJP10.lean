/- Contracts of the functions that the statements reach, part 10: what was proved of each, callees first. -/
import Derived.Test.YthokdplikidhiaaGreatJP9
namespace Go.Proofs.YthokdplikidhiaaGreat
open Go.RowKit
structure PS (g : Grp) (L : List Acc) (G : List Ent) (Xs : List Etl) (w2 : World) (i : Nat) (Os : List Etl) (jb : Nat) (j : JD) (M : Nat → Prop) (v : Value) (W : World) : Prop where
 jk : JK M w2.heap.size W j
 jb : j.b = jb
 bd : BareD g L G j
 es : j.Es = Os.map pe
 mw : ∀ k, M k → w2.heap.size ≤ k ∧ k < W.heap.size
 ow : OwnR lyX 46 W w2.heap.size v (Os.map (·.1))
 dj : ∀ k, v.ownBlock = some k → ¬ M k
 low : Below w2.heap.size w2 W
 sub : ∀ p ∈ Os, p ∈ Xs
 ln : Os.length ≤ i
 im : Im (fun k => M k ∨ v.ownBlock = some k) (fun W => GrK W j.g j.L j.G ∧ EtysK W j.Xs) W
 ok : ∀ p ∈ Os, wr (sumT p.2) = 0 ∧ 0 ≤ p.1.ent ∧ p.1.ent < (g.m : Int)
theorem rchk_ok {g : Grp} {G : List Ent} {x : Ety} {X : List Lnk} {gp : Bool} (h : rchkN (shpB gp g x X) (acB (G.getD x.ent.toNat ent0).L X) (rtlN g x X) = 0) : wr (sumT X) = 0 ∧ 0 ≤ x.ent ∧ x.ent < (g.m : Int) := by
 unfold rchkN at h
 split at h
 ·rename_i h1
  have h2 := shpB_ent h1
  unfold entIn at h2
  simp only [Bool.and_eq_true, decide_eq_true_eq] at h2
  split at h
  ·unfold rtlN at h
   split at h
   ·split at h
    ·rename_i h3
     exact ⟨h3, h2.1, h2.2⟩
    ·cases h
   ·cases h
  ·cases h
 ·cases h
section
variable {g : Grp} {L : List Acc} {G : List Ent} {Xs Os : List Etl} {w2 W W' : World} {i jb : Nat} {j : JD} {M : Nat → Prop} {v v' : Value}
theorem PS.up (h : PS g L G Xs w2 i Os jb j M v W) (hb : Below W.heap.size W W') : PS g L G Xs w2 i Os jb j M v W' :=
 ⟨h.jk.up hb, h.jb, h.bd, h.es, fun k hk => ⟨(h.mw k hk).1, Nat.lt_of_lt_of_le (h.mw k hk).2 hb.size⟩, h.ow.up hb, h.dj, h.low.trans (hb.mono h.low.size), h.sub, h.ln, h.im.on (Only.of hb), h.ok⟩
theorem PS.len (h : PS g L G Xs w2 i Os jb j M v W) : j.n ≤ i := by
 have h1 := h.jk.len
 rw [h.es, List.length_map] at h1
 have := h.ln
 omega
theorem PS.more (h : PS g L G Xs w2 i Os jb j M v W) : PS g L G Xs w2 (i + 1) Os jb j M v W := { h with ln := Nat.le_succ_of_le h.ln }
theorem PS.post {x : Ety} {X : List Lnk} (h : PS g L G Xs w2 i Os jb j M v W) (hp : PostP M w2.heap.size j x X W W') : ∃ j' M', JK M' w2.heap.size W' j' ∧ j'.b = jb ∧ BareD g L G j' ∧ j'.Es = Os.map pe ++ [pe (x, X)] ∧ (∀ k, M' k → w2.heap.size ≤ k ∧ k < W'.heap.size) ∧ OwnR lyX 46 W' w2.heap.size v (Os.map (·.1)) ∧ (∀ k, v.ownBlock = some k → ¬ M' k) ∧ Below w2.heap.size w2 W' ∧ Im (fun k => M' k ∨ v.ownBlock = some k) (fun W => GrK W j'.g j'.L j'.G ∧ EtysK W j'.Xs) W' := by
 obtain ⟨A, c, A', c', h1, h2, h3, h4⟩ := hp
 refine ⟨j.add (x.at A c) X A' c', MA M j A' c', h1, h.jb, h.bd, by rw [JD.add_es, h.es]; rfl, fun k hk => ?_, h.ow.blk fun k hk => h2.blk k (h.ow.lt hk).2 (h.dj k hk), fun k hk hm => ?_, h.low.trans (h2.below (fun k hk => (h.mw k hk).1) h.low.size), ?_⟩
 ·obtain ⟨h4, h5⟩ := h3 k hk
  refine ⟨?_, h5⟩
  rcases h4 with h4 | h4
  ·exact (h.mw k h4).1
  ·have := h.low.size; omega
 ·obtain ⟨h4, -⟩ := h3 k hm
  rcases h4 with h4 | h4
  ·exact h.dj k hk h4
  ·have := (h.ow.lt hk).2; omega
 ·have h5 := h.im.step (T := fun k => MA M j A' c' k ∨ v.ownBlock = some k) (h2.wide fun k _ hk => .inl hk) (fun k hk hm => by
   rcases hm with hm | hm
   ·rcases (h3 k hm).1 with h6 | h6
    ·exact .inl h6
    ·omega
   ·exact .inr hm)
  refine (h5.both (h4 (fun k => v.ownBlock = some k) fun k hk => (h.ow.lt hk).2)).imp fun W0 hw => ⟨hw.1.1, fun p hp => ?_⟩
  rcases List.mem_append.1 hp with h7 | h7
  ·exact hw.1.2 p h7
  ·rw [List.mem_singleton] at h7
   rw [h7]; exact hw.2
theorem PS.app {x : Ety} {X : List Lnk} {j2 : JD} {M2 : Nat → Prop} {W8 W9 : World} {v9 : Value} (h1 : JK M2 w2.heap.size W8 j2) (h2 : j2.b = jb) (h3 : BareD g L G j2) (h4 : j2.Es = Os.map pe ++ [pe (x, X)]) (h5 : ∀ k, M2 k → w2.heap.size ≤ k ∧ k < W8.heap.size) (h6 : OwnR lyX 46 W8 w2.heap.size v (Os.map (·.1))) (h7 : ∀ k, v.ownBlock = some k → ¬ M2 k) (h8 : Below w2.heap.size w2 W8)
  (him : Im (fun k => M2 k ∨ v.ownBlock = some k) (fun W => GrK W j2.g j2.L j2.G ∧ EtysK W j2.Xs) W8) (ho : OwnR lyX 46 W9 w2.heap.size v9 (Os.map (·.1) ++ [x])) (hg : W8.grownBy W9 v.ownBlock) (hn : v9.ownBlock = v.ownBlock ∨ v9.ownBlock = some W8.heap.size) (hsub : ∀ p ∈ Os, p ∈ Xs) (hx : (x, X) ∈ Xs) (hln : Os.length ≤ i) (hok : ∀ p ∈ Os, wr (sumT p.2) = 0 ∧ 0 ≤ p.1.ent ∧ p.1.ent < (g.m : Int)) (hox : wr (sumT X) = 0 ∧ 0 ≤ x.ent ∧ x.ent < (g.m : Int)) : PS g L G Xs w2 (i + 1) (Os ++ [(x, X)]) jb j2 M2 v9 W9 := by
 have hon : Only (fun k => v.ownBlock = some k) W8 W9 := Only.grown hg fun k hk => hk
 have hne : ∀ k, M2 k → k < W8.heap.size → W9.heap[k]? = W8.heap[k]? := fun k hm hk => hon.blk k hk fun e => h7 k e hm
 have him9 := him.step (T := fun k => M2 k ∨ v9.ownBlock = some k) (hon.wide fun k _ hk => .inr hk) (fun k hk hm => by
  rcases hm with hm | hm
  ·exact .inl hm
  ·rcases hn with e | e
   ·exact .inr (by rw [← e]; exact hm)
   ·rw [e] at hm
    injection hm with hm
    omega)
 have himM : Im M2 (fun W => GrK W j2.g j2.L j2.G ∧ EtysK W j2.Xs) W9 := him9.step (Only.refl W9) fun k _ hk => .inl hk
 refine ⟨⟨h1.box.only hon (fun e => h7 _ e h1.mb), h1.row.blk fun k hk => hne k (h1.mx k hk) (h1.row.lt hk).2, h1.ln, h1.idx.blk (hne _ h1.mi (h5 _ h1.mi).2), h1.rev.blk (hne _ h1.mr (h5 _ h1.mr).2), himM.imp fun _ h => h.1, himM.imp fun _ h => h.2, h1.mb, h1.mi, h1.mr, h1.mx, h1.ne, h1.hs, h1.hw, h1.good⟩, h2, h3, by rw [h4, List.map_append]; rfl, fun k hk => ⟨(h5 k hk).1, Nat.lt_of_lt_of_le (h5 k hk).2 hon.size⟩, by rw [List.map_append]; exact ho, fun k hk hm => ?_, h8.trans (hon.below (fun k hk => (h6.lt hk).1) h8.size), fun p hp => ?_, by rw [List.length_append]; simp; omega, him9, fun p hp => ?_⟩
 ·rcases hn with e | e
  ·exact h7 k (by rw [← e]; exact hk) hm
  ·rw [e] at hk
   injection hk with hk
   have := (h5 k hm).2
   omega
 ·rcases List.mem_append.1 hp with h9 | h9
  ·exact hsub p h9
  ·rw [List.mem_singleton] at h9
   rw [h9]; exact hx
 ·rcases List.mem_append.1 hp with h9 | h9
  ·exact hok p h9
  ·rw [List.mem_singleton] at h9
   rw [h9]; exact hox
theorem PS.start {j0 : JD} {M0 : Nat → Prop} {w3 : World} (hj0 : JK M0 w2.heap.size w3 j0) (hx0 : j0.Xs = []) (hm0 : ∀ k, M0 k → w2.heap.size ≤ k ∧ k < w3.heap.size) (hd0 : BareD g L G j0) (hb : Below w2.heap.size w2 w3) : PS g L G Xs w2 0 [] j0.b j0 M0 (.slice none 0 0) w3 :=
 ⟨hj0, rfl, hd0, (by unfold JD.Es; rw [hx0]; first | done | rfl), hm0, OwnR.nil, (fun k hk => by cases hk), hb, (fun p hp => by cases hp), Nat.le_refl _, (hj0.grp.both hj0.ets).step (Only.refl w3) (fun k _ hk => hk.elim id fun h => by cases h), fun p hp => by cases hp⟩
end
def PsQ (g : Grp) (L : List Acc) (G : List Ent) (Xs : List Etl) (w2 : World) (e : Ending) (W : World) : Prop :=
 if grpP g L G = true then ∃ jb j M Os A c, e = .returned (.tuple #[.pointer (some ⟨jb, 0, none⟩), .slice A Os.length c, .bool true]) ∧ PS g L G Xs w2 Xs.length Os jb j M (.slice A Os.length c) W
 else e = .returned (.tuple #[.pointer none, .slice none 0 0, .bool true])
def pstF (bb off n c s0 o9 c9 i : Nat) (A9 : Option Addr) (E : Int) (GV XV : Value) : List (Nat × AK.Fact (Below0)) := [(40, AK.Fact.is (GV)), (41, AK.Fact.is (.slice A9 o9 c9)), (42, AK.Fact.is (.slice (some ⟨bb, off, none⟩) n c)), (43, AK.Fact.is (.int .i64 (i : Int))), (44, AK.Fact.is (.pointer (some ⟨bb, off + i * 7, none⟩))), (45, AK.Fact.is (XV)), (46, AK.Fact.is (.int .i64 E)), (11, AK.Fact.is (.int .i64 E))]
set_option maxRecDepth 100000 in
set_option maxHeartbeats 25600000 in
theorem posted_any (g : Grp) (L : List Acc) (G : List Ent) (A : Option Addr) (c : Nat) (Xs : List Etl) (w : World) (hk : GrK w g L G) (hs : Sm g G) (hw : GrW g L G) (hz : RowAt lyX w A (Xs.map (·.1))) (hzs : EtysK w Xs) (hl : Xs.length ≤ 100) (hxs : ∀ p ∈ Xs, p.1.n ≤ 1000 ∧ p.1.txt.size ≤ maxLen ∧ (Lit.int .i64 p.1.id).wf = true ∧ (Lit.int .i64 p.1.of_).wf = true) :
  Calls Tryz.prog 15 #[grpV g, .slice A Xs.length c] w fun e W => ∃ w2, Below w.heap.size w w2 ∧ PsQ g L G Xs w2 e W ∧ Below w2.heap.size w2 W := by
 have HNW := Lib.hid (fun W (h : GrK W g L G) => new_any g L G W h hs hw)
 have HRV := Lib.hid (fun W (h : GrK W g L G) => rvalid10_any g L G W h hs hw)
 have HSM := Lib.hid hs
 have HGW := Lib.hid hw
 obtain ⟨n, hnn⟩ : ∃ n, Xs.length = n := ⟨_, rfl⟩
 obtain ⟨GV, hGV⟩ : ∃ GV, GV = grpV g := ⟨_, rfl⟩
 rw [← hGV] at HNW HRV
 have HGV := Lib.hid hGV
 obtain ⟨gs, hgs⟩ : ∃ gs, (grpC g).toArray = gs := ⟨_, rfl⟩
 rw [show grpV g = .agg gs by rw [grpV_is, hgs]]
 obtain ⟨s0, hs0⟩ : ∃ s0, w.heap.size = s0 := ⟨_, rfl⟩
 obtain ⟨w2, hw2⟩ : ∃ w2, w.alloc (.cells gs 29) = w2 := ⟨_, rfl⟩
 have HGB : Hid (Wh 29 w2 s0 (grpC g)) := Lib.hid (by rw [← hw2, ← hgs, ← hs0]; exact Wh.new w _ _)
 have HB2 : Hid (Below w.heap.size w w2) := Lib.hid (by rw [← hw2]; exact below_alloc_new _)
 have HKC := Lib.hid (hk.up HB2.out)
 have HS0 := Lib.hid hs0
 have HZ2 := Lib.hid (hz.up HB2.out)
 have HZS := Lib.hid (hzs.up HB2.out)
 have HXS := Lib.hid hxs
 have HNN := Lib.hid hnn
 have HL100 : Hid (n ≤ 100) := Lib.hid (by rw [← hnn]; exact hl)
 have HLG : Hid (∀ W, Below w2.heap.size w2 W → (Instr.loadAt 29 (.pointer (some ⟨s0, 0, none⟩))).run Tryz.prog W = .ok GV W) := Lib.hid (fun W h => by rw [hGV, grpV_is]; exact (HGB.out.up h).rg.load 0 29 (grpC g) rfl _ Tryz.underlying29 rfl (by kernel_rfl))
 have HQ : Hid (∀ e W, PsQ g L G Xs w2 e W → Below w2.heap.size w2 W → ∃ w2, Below w.heap.size w w2 ∧ PsQ g L G Xs w2 e W ∧ Below w2.heap.size w2 W) := Lib.hid (fun e W h h2 => ⟨w2, HB2.out, h, h2⟩)
 rw [hnn]
 clear hk hs hw hz hzs hl hxs hnn hgs hGV
 have HM1 : True := trivial
 have HM2 : True := trivial
 cases hv : grpP g L G
 ·have hrv : grpR g L G = false := (grp_eq g L G).symm.trans hv
  rw [hrv] at HRV
  have HNQ : Hid (∀ B e w', NewP g L G B e w' → e = .returned (.tuple #[.pointer none, .int .i64 1])) := Lib.hid (fun B e w' h => by unfold NewP at h; rw [hv] at h; simpa using h)
  have HPQ : Hid (∀ W, PsQ g L G Xs w2 (.returned (.tuple #[.pointer none, .slice none 0 0, .bool true])) W) := Lib.hid (fun W => by unfold PsQ; rw [hv]; rfl)
  clear hv hrv
  go_enter Tryz.func15, Tryz.ntmps15
  go_wp2_with (first
   | (clear HM1; refine wpList_load_is rfl 29 _ rfl (.pointer (some ⟨s0, 0, none⟩)) rfl GV (HLG.out _ (Below.refl _ _)) ?_)
   | (go_at_call 41; refine (HNW.out _ HKC.out).mono ?_; rintro e w3 ⟨hq, hb⟩; obtain rfl := HNQ.out _ _ _ hq; clear hq; have HB3 := Lib.hid hb; clear hb)
   | (clear HM2; refine wpList_load_if (by rfl) 29 _ rfl (.pointer (some ⟨s0, 0, none⟩)) rfl GV (HLG.out _ HB3.out) ?_)
   | (go_at_call 44; refine (HRV.out _ (HKC.out.up HB3.out)).mono ?_; rintro e w4 ⟨rfl, hb⟩; have HB4 := Lib.hid (HB3.out.trans (hb.mono HB3.out.size)); clear hb))
  go_ret3
  exact HQ.out _ _ (HPQ.out _) HB4.out
 ·have HV := Lib.hid hv
  have HNQ : Hid (∀ B e w', NewP g L G B e w' → ∃ j M, e = .returned (.tuple #[.pointer (some ⟨j.b, 0, none⟩), .int .i64 0]) ∧ JK M B w' j ∧ j.Xs = [] ∧ (∀ k, M k → B ≤ k ∧ k < w'.heap.size) ∧ BareD g L G j) := Lib.hid (fun B e w' h => by unfold NewP at h; rw [hv, if_pos rfl] at h; exact h)
  clear hv
  go_enter Tryz.func15, Tryz.ntmps15
  go_wp2_with (first
   | (clear HM1; refine wpList_load_is rfl 29 _ rfl (.pointer (some ⟨s0, 0, none⟩)) rfl GV (HLG.out _ (Below.refl _ _)) ?_)
   | (go_at_call 41; refine (HNW.out _ HKC.out).mono ?_; rintro e w3 ⟨hq, hb⟩; obtain ⟨j0, M0, rfl, hj0, hx0, hm0, hd0⟩ := HNQ.out _ _ _ hq; clear hq; have HP0 := Lib.hid (PS.start (Xs := Xs) hj0 hx0 hm0 hd0 hb); clear hb hj0 hx0 hm0 hd0))
  obtain ⟨jb, hjb⟩ : ∃ jb, j0.b = jb := ⟨_, rfl⟩
  rw [hjb] at HP0 ⊢
  clear hjb
  go_loopg [9, 10] n (fun kx s9 s10 wr => ∃ (i : Nat), s10 = .int .i64 (i : Int) ∧ i ≤ n ∧ n - i ≤ kx ∧ Hid (∃ Os j M, PS g L G Xs w2 i Os jb j M s9 wr))
  case atStart => exact ⟨0, rfl, by omega, by omega, Lib.hid ⟨[], j0, M0, HP0.out⟩⟩
  case round =>
   obtain ⟨i, rfl, hi, hkx, HL⟩ := hrel
   obtain ⟨Os, j, M, hps⟩ := HL.out
   clear HL
   obtain ⟨A9, c9, e9, hr9, -⟩ := hps.ow.reads
   obtain ⟨o9, ho9⟩ : ∃ o9, (Os.map (·.1)).length = o9 := ⟨_, rfl⟩
   rw [ho9] at e9
   subst e9
   have HO9 : Hid (Os.length = o9) := Lib.hid (by rw [← ho9, List.length_map])
   clear ho9 hr9
   by_cases hlt : i < n
   ·have hltz : (i : Int) < (n : Int) := by omega
    obtain ⟨p, hp⟩ : ∃ p, Xs[i]? = some p := ⟨_, List.getElem?_eq_getElem (by rw [HNN.out]; exact hlt)⟩
    have hpm := List.mem_of_getElem? hp
    have hym : (Xs.map (·.1))[i]? = some p.1 := by rw [List.getElem?_map, hp]; rfl
    have hkk := HZS.out p hpm
    obtain ⟨hp1, hp2, hp3, hp4⟩ := HXS.out p hpm
    obtain ⟨bb, off, hA, hbl, hrg⟩ := HZ2.out.at hym
    subst hA
    obtain ⟨x, X⟩ := p
    obtain ⟨XV, hXV⟩ : ∃ XV, XV = etyV x := ⟨_, rfl⟩
    have HLX : Hid (∀ W, Below w2.heap.size w2 W → (Instr.loadAt 46 (.pointer (some ⟨bb, off + i * 7, none⟩))).run Tryz.prog W = .ok XV W) := Lib.hid (fun W hW => by rw [hXV, etyV_is]; exact run_loadAt_mid W bb (off + i * 7) 46 (etyC x) _ (fun jj v hv => (hW.cell (p := ⟨bb, off + i * 7 + jj, none⟩) hbl).trans (hrg jj v hv)) Tryz.underlying46 rfl (by kernel_rfl))
    have HEK : Hid (∀ W, Below w2.heap.size w2 W → EtyK W x X) := Lib.hid (fun W hW => hkk.up hW)
    have HIZ := Lib.hid hltz
    have HPS := Lib.hid hps
    obtain ⟨E, hE⟩ : ∃ E, postE (rchkN (shpB (grpR g L G) g x X) (acB (G.getD x.ent.toNat ent0).L X) (rtlN g x X)) (Os.map pe) (pe (x, X)) = E := ⟨_, rfl⟩
    have HOX := Lib.hid (fun (h0 : E = 0) => rchk_ok (postE_zero (by rw [← hps.es]; exact hps.jk.good) (hE.trans h0)).1)
    have hcb := chk_bare hps.bd HV.out HKC.out.lg x X hkk.ln
    have HRP : Hid (∀ W, PS g L G Xs w2 i Os jb j M (.slice A9 o9 c9) W → Calls Tryz.prog 28 #[GV, .slice A9 o9 c9, XV] W fun e w' => e = .returned (.int .i64 E) ∧ Below W.heap.size W w') := Lib.hid (fun W h => by
     obtain ⟨A8, c8, e8, hr8, -⟩ := h.ow.reads
     injection e8 with e8 _ _
     have h9 := r12post_any g L G A9 c9 Os x X W (HKC.out.up h.low) HSM.out HGW.out (by rw [e8]; exact hr8) (fun p hp => (HZS.out p (h.sub p hp)).up h.low) (fun p hp => by rw [(HZS.out p (h.sub p hp)).ln]; exact (HXS.out p (h.sub p hp)).1) (by have := h.ln; have := HL100.out; omega) (HEK.out _ h.low) hp1 hp2
     rw [hE, ← HGV.out, ← hXV, HO9.out] at h9
     exact h9)
    have HPO : Hid (∀ W, PS g L G Xs w2 i Os jb j M (.slice A9 o9 c9) W → Calls Tryz.prog 24 #[.pointer (some ⟨jb, 0, none⟩), XV] W fun e w' => e = .returned (.int .i64 E) ∧ PostQ E M w2.heap.size j x X W w') := Lib.hid (fun W h => by
     have h9 := jpost_any (B := w2.heap.size) j x X W h.jk (HEK.out _ h.low) hp1 hp3 hp4 h.low.size (by have := h.len; have := HL100.out; omega) (fun k hk => (h.mw k hk).2)
     rw [hcb, h.es, hE, ← hXV, h.jb] at h9
     exact h9)
    have HPM := Lib.hid hpm
    have HXV := Lib.hid hXV
    clear hp hym hkk hrg hbl hpm hps hcb hE hp1 hp2 hp3 hp4 hXV
    go_upto_region 8 with fail
    refine AK.region_facts (Rp := Below0) (Kp := Below0) (pstF bb off n c s0 o9 c9 i A9 E GV XV) (fun _ _ W => Below wr.heap.size wr W) [[], [], [], [], [42, 43], [44], [40, 41, 45], [46]] [] [[]] [0, 0, 0, 0, 0, 0, 0, 0] [0, 0, 0, 0, 0, 0, 0, 0] [] (fun u => by simp only [pstF, AK.temps, List.map_cons, List.map_nil, fillL, List.setIfInBounds_toArray, List.set_cons_zero, List.set_cons_succ]; rfl) (by kernel_rfl) (by kernel_rfl) (fun _ _ h => h.size) (fun _ _ h => h) (fun _ _ _ _ hb h => h.trans (hb.mono h.size)) (dc_drew (Below.refl _ _)) ?_ ?_
    ·refine AK.sc (lim := 0) (lo := 0) rfl rfl rfl rfl ?_ ?_
     ·intro k_ u w_ hk_ hl_ hJ hF K hK
      clear hF
      refine wp_load_is 29 _ rfl (.pointer (some ⟨s0, 0, none⟩)) rfl GV (HLG.out _ (HPS.out.up hJ).low) ?_
      exact hK.out _ _ (Below.refl _ _) rfl trivial
     refine AK.sc (lim := 0) (lo := 0) rfl rfl rfl rfl ?_ ?_
     ·intro k_ u w_ hk_ hl_ hJ hF K hK
      clear hF
      go_simp
      exact hK.out _ _ (Below.refl _ _) (rfl) trivial
     refine AK.sc (lim := 0) (lo := 0) rfl rfl rfl rfl ?_ ?_
     ·intro k_ u w_ hk_ hl_ hJ hF K hK
      clear hF
      go_simp
      exact hK.out _ _ (Below.refl _ _) (rfl) trivial
     refine AK.sc (lim := 0) (lo := 0) rfl rfl rfl rfl ?_ ?_
     ·intro k_ u w_ hk_ hl_ hJ hF K hK
      clear hF
      go_simp
      exact hK.out _ _ (Below.refl _ _) (rfl) trivial
     refine AK.sc (lim := 0) (lo := 0) rfl rfl rfl rfl ?_ ?_
     ·intro k_ u w_ hk_ hl_ hJ hF K hK
      have h42 : u 42 = .slice (some ⟨bb, off, none⟩) n c := AK.facts_get hF 42 (by simp)
      have h43 : u 43 = .int .i64 (i : Int) := AK.facts_get hF 43 (by simp)
      clear hF
      simp only [h42, h43] at hK ⊢
      clear h42 h43
      have hz_ := HIZ.out
      go_simp
      exact hK.out _ _ (Below.refl _ _) (rfl) trivial
     refine AK.sc (lim := 0) (lo := 0) rfl rfl rfl rfl ?_ ?_
     ·intro k_ u w_ hk_ hl_ hJ hF K hK
      have h44 : u 44 = .pointer (some ⟨bb, off + i * 7, none⟩) := AK.facts_get hF 44 (by simp)
      clear hF
      simp only [h44] at hK ⊢
      clear h44
      refine wp_load_is 46 _ rfl (.pointer (some ⟨bb, off + i * 7, none⟩)) rfl XV (HLX.out _ (HPS.out.up hJ).low) ?_
      exact hK.out _ _ (Below.refl _ _) rfl trivial
     refine AK.sc (lim := 0) (lo := 0) rfl rfl rfl rfl ?_ ?_
     ·intro k_ u w_ hk_ hl_ hJ hF K hK
      have h40 : u 40 = GV := AK.facts_get hF 40 (by simp)
      have h41 : u 41 = .slice A9 o9 c9 := AK.facts_get hF 41 (by simp)
      have h45 : u 45 = XV := AK.facts_get hF 45 (by simp)
      clear hF
      simp only [h40, h41, h45] at hK ⊢
      clear h40 h41 h45
      go_simp
      refine (HRP.out _ (HPS.out.up hJ)).mono ?_
      rintro r w6 ⟨rfl, hb6⟩
      exact hK.out _ _ hb6 rfl trivial
     refine AK.sc (lim := 0) (lo := 0) rfl rfl rfl rfl ?_ ?_
     ·intro k_ u w_ hk_ hl_ hJ hF K hK
      have h46 : u 46 = .int .i64 E := AK.facts_get hF 46 (by simp)
      clear hF
      simp only [h46] at hK ⊢
      clear h46
      go_simp
      exact hK.out _ _ (Below.refl _ _) (rfl) trivial
     exact AK.StepsOk.nil
    ·intro u W9 hJ9 hF
     have h11 : u 11 = .int .i64 E := AK.facts_get hF 11 (by simp [pstF, AK.temps])
     clear hF
     have HPS9 := Lib.hid (HPS.out.up hJ9)
     simp only [h11]
     clear hJ9 h11
     by_cases hE0 : E = 0
     ·have hz1 : (E == 0) = true := by simp [hE0]
      obtain ⟨i0, hi, hzz1, hzz2, hzz3⟩ := info_parts infoEx
      have HM3 : True := trivial
      have HM4 : True := trivial
      have HE0 := Lib.hid hE0
      clear hE0
      go_upto_region 12 with (first
       | (clear HM3; refine wpList_load_is rfl 46 _ rfl (.pointer (some ⟨bb, off + i * 7, none⟩)) rfl XV (HLX.out _ HPS9.out.low) ?_)
       | (go_at_call 24; refine (HPO.out _ HPS9.out).mono ?_; rintro e w7 ⟨rfl, hq⟩; obtain ⟨j2, M2, a1, a2, a3, a4, a5, a6, a7, a8, a9⟩ := HPS9.out.post (hq.yes HE0.out); have H1 := Lib.hid a1; have H2 := Lib.hid a2; have H3 := Lib.hid a3; have H4 := Lib.hid a4; have H5 := Lib.hid a5; have H6 := Lib.hid a6; have H7 := Lib.hid a7; have H8 := Lib.hid a8; have H9 := Lib.hid a9; clear hq a1 a2 a3 a4 a5 a6 a7 a8 a9))
      have hx8 : Below w7.heap.size w7 (w7.alloc (.cells #[.int .i64 x.id, .int .i64 x.ent, .int .i64 x.day, .int .i64 x.kind, .int .i64 x.of_, .string x.txt, .slice x.A x.n x.c] 46)) := below_alloc_new _
      have HX8 := Lib.hid hx8
      have HR8 : Hid (RowAt lyX (w7.alloc (.cells #[.int .i64 x.id, .int .i64 x.ent, .int .i64 x.day, .int .i64 x.kind, .int .i64 x.of_, .string x.txt, .slice x.A x.n x.c] 46)) (some ⟨w7.heap.size, 0, none⟩) [x]) := Lib.hid (row_one (R := lyX) (x := x) (Wh.new w7 46 (etyC x)))
      have HA8 := Lib.hid (H6.out.up hx8)
      have HOL : Hid ((Os.map (·.1)).length ≤ 1000) := Lib.hid (by rw [List.length_map]; have := HPS.out.ln; have := HL100.out; omega)
      have HLY : Hid (∀ W, Below w2.heap.size w2 W → (Instr.loadAt 46 (.pointer (some ⟨bb, off + i * 7, none⟩))).run Tryz.prog W = .ok (etyV x) W) := Lib.hid (fun W h => by rw [← HXV.out]; exact HLX.out W h)
      clear hx8
      go_wp2_with (first
       | (clear HM4; refine wpList_load_is rfl 46 _ rfl (.pointer (some ⟨bb, off + i * 7, none⟩)) rfl (etyV x) (HLY.out _ H8.out) ?_)
       | (at_builtin; refine wpList_app_row (R := lyX) rfl (.tmp 59) (.tmp 64) 30 rfl i0 _ 80 Tryz.underlying30 hi hzz1 hzz2 hzz3 (by omega) rfl rfl HA8.out (some ⟨w7.heap.size, 0, none⟩) 1 1 [x] rfl rfl HR8.out (by have := HOL.out; omega) (by have := HX8.out.size; have := H8.out.size; omega) ?_; intro v9 w9 hr9 hg9 hn9; have HZ9 : Hid (PS g L G Xs w2 (i + 1) (Os ++ [(x, X)]) jb j2 M2 v9 w9) := Lib.hid (PS.app (H1.out.up HX8.out) H2.out H3.out H4.out (fun k hk => ⟨(H5.out k hk).1, Nat.lt_of_lt_of_le (H5.out k hk).2 HX8.out.size⟩) HA8.out H7.out (H8.out.trans (HX8.out.mono H8.out.size)) (H9.out.on (Only.of HX8.out)) hr9.out hg9.out hn9.out HPS.out.sub HPM.out HPS.out.ln HPS.out.ok (HOX.out HE0.out)); clear hr9 hg9 hn9))
      go_roundg (n - (i + 1))
      case measure => omega
      case rel => exact ⟨i + 1, by (have hn100 := HL100.out; first | go_num | (refine congrArg (Value.int .i64) ?_; unfold wrap64; omega)), by omega, by omega, Lib.hid ⟨Os ++ [(x, X)], j2, M2, HZ9.out⟩⟩
     ·have hz1 : (E == 0) = false := by simp [hE0]
      have HE0 := Lib.hid hE0
      have HM3 : True := trivial
      clear hE0
      go_wp2_with (first
       | (clear HM3; refine wpList_load_is rfl 46 _ rfl (.pointer (some ⟨bb, off + i * 7, none⟩)) rfl XV (HLX.out _ HPS9.out.low) ?_)
       | (go_at_call 24; refine (HPO.out _ HPS9.out).mono ?_; rintro e w7 ⟨rfl, hq⟩; have HPT := Lib.hid (HPS9.out.up (hq.no HE0.out)); clear hq))
      go_roundg (n - (i + 1))
      case measure => omega
      case rel => exact ⟨i + 1, by (have hn100 := HL100.out; first | go_num | (refine congrArg (Value.int .i64) ?_; unfold wrap64; omega)), by omega, by omega, Lib.hid ⟨Os, j, M, HPT.out.more⟩⟩
   ·obtain rfl : n = i := by omega
    have hltz : ¬ (n : Int) < (n : Int) := by omega
    have HPS := Lib.hid hps
    clear hps
    go_wp2_with fail
    go_ret3
    have hq : PsQ g L G Xs w2 (.returned (.tuple #[.pointer (some ⟨jb, 0, none⟩), .slice A9 o9 c9, .bool true])) wr := by unfold PsQ; rw [if_pos HV.out]; exact ⟨jb, j, M, Os, A9, c9, by rw [HO9.out], by rw [HO9.out, HNN.out]; exact HPS.out⟩
    obtain ⟨w4, q1, q2, q3⟩ := HQ.out _ _ hq HPS.out.low
    exact ⟨w4, by first | exact q1 | (rw [← HS0.out]; exact q1), q2, q3⟩
open Go.RowKit
theorem fndX_n {M : Nat → Prop} {B : Nat} {w : World} {j : JD} (h : JK M B w j) (id : Int) : (fndX j.Xs id).1.n ≤ 1000 ∧ (fndX j.Xs id).2.length = (fndX j.Xs id).1.n := by
 have hk := fndX_k h.ets.now id
 refine ⟨?_, hk.ln⟩
 cases hb : fndB j.Xs id with
 | false => rw [fndX_no hb]; exact Nat.zero_le _
 | true =>
  have h1 := List.mem_of_getElem? (fndX_yes hb)
  have h2 := h.good.ln _ (List.mem_map_of_mem (f := pe) h1)
  rw [← hk.ln]
  exact h2
def lineP (Y : List Lnk) (b : Int) : Option Lnk := if 0 ≤ b then Y[b.toNat]? else none
theorem lineP_neg {Y : List Lnk} {b : Int} (h : b < 0) : lineP Y b = none := by unfold lineP; rw [if_neg (by omega)]
theorem lineP_big {Y : List Lnk} {b : Int} (h : (Y.length : Int) ≤ b) : lineP Y b = none := by
 unfold lineP
 split
 ·exact List.getElem?_eq_none (by omega)
 ·rfl
def lineV (l : Option Lnk) : Value := match l with | some x => .tuple #[lnkV x, .bool true] | none => .tuple #[.agg #[.int .i64 0, .int .i64 0, .int .i64 0], .bool false]
set_option maxRecDepth 100000 in
set_option maxHeartbeats 3200000 in
theorem jget_any {M : Nat → Prop} {B : Nat} (j : JD) (id : Int) (w : World) (hj : JK M B w j) (hi : (Lit.int .i64 id).wf = true) (hn : j.n ≤ 100000) : Calls Tryz.prog 45 #[.pointer (some ⟨j.b, 0, none⟩), .int .i64 id] w fun e w' => (∃ A c, e = .returned (.tuple #[etyV ((fndX j.Xs id).1.at A c), .bool (fndB j.Xs id)]) ∧ EtyK w' ((fndX j.Xs id).1.at A c) (fndX j.Xs id).2) ∧ Below w.heap.size w w' := by
 obtain ⟨s0, hs0⟩ : ∃ s0, w.heap.size = s0 := ⟨_, rfl⟩
 obtain ⟨w2, hw2⟩ : ∃ w2, w.alloc (.cells #[.int .i64 0, .int .i64 0, .int .i64 0, .int .i64 0, .int .i64 0, .string ⟨#[]⟩, .slice none 0 0] 46) = w2 := ⟨_, rfl⟩
 have HZ : Hid (Wh 46 w2 s0 [.int .i64 0, .int .i64 0, .int .i64 0, .int .i64 0, .int .i64 0, .string ⟨#[]⟩, .slice none 0 0]) := Lib.hid (by rw [← hw2, ← hs0]; exact Wh.new w 46 [.int .i64 0, .int .i64 0, .int .i64 0, .int .i64 0, .int .i64 0, .string ⟨#[]⟩, .slice none 0 0])
 have HB2 : Hid (Below s0 w w2) := Lib.hid (by rw [← hw2, ← hs0]; exact below_alloc_new _)
 have HS2 : Hid (w2.heap.size = s0 + 1) := Lib.hid (by rw [← hw2, ← hs0]; simp)
 have HS0 := Lib.hid hs0
 have hj2 := hj.up (HB2.out.mono (Nat.le_of_eq hs0))
 have HF := Lib.hid (find_any j id w2 hj2 hi hn)
 have HYK := Lib.hid (fndX_k hj2.ets.now id)
 have HYN := Lib.hid (fndX_n hj2 id).1
 generalize fndX j.Xs id = yy at *
 generalize fndB j.Xs id = bb at *
 obtain ⟨y, Y⟩ := yy
 clear hj hj2 hi hn
 have HCO := Lib.hid (fun W (h : EtyK W y Y) => copyof_any y Y W h HYN.out)
 have HYL : Hid (Y.length = y.n) := Lib.hid HYK.out.ln
 have HYO : Hid (∀ l ∈ Y, okK (kOf l) ∧ (Lit.int .i64 l.tgt).wf = true) := Lib.hid HYK.out.ok
 go_enter Tryz.func45, Tryz.ntmps45
 go_upto_region 2 with (first
  | (go_at_call 85; refine HF.out.mono ?_; rintro e w3 ⟨rfl, hb⟩; have HB3 := Lib.hid hb; clear hb; obtain ⟨s3, hs3⟩ : ∃ s3, w3.heap.size = s3 := ⟨_, rfl⟩; have HS3 := Lib.hid hs3)
  | (refine wpList_store_wh rfl 46 _ _ rfl s3 rfl 46 [.int .i64 0, .int .i64 0, .int .i64 0, .int .i64 0, .int .i64 0, .string ⟨#[]⟩, .slice none 0 0] (etyC y) rfl (by rw [← HS3.out]; exact Wh.new w3 46 [.int .i64 0, .int .i64 0, .int .i64 0, .int .i64 0, .int .i64 0, .string ⟨#[]⟩, .slice none 0 0]) rfl (by kernel_rfl) (by kernel_rfl) ?_; intro w5 hr5 ho5 hz5; have HR5 := Lib.hid hr5.out; have hb5 : Below w3.heap.size w3 w5 := only_new (by rw [HS3.out]; exact ho5.out); have HB5 := Lib.hid (HB3.out.trans (hb5.mono HB3.out.size)); clear hr5 ho5 hz5 hb5 hs3 HB3))
 have HLE : Hid ((Instr.loadAt 46 (.pointer (some ⟨s3, 0, none⟩))).run Tryz.prog w5 = .ok (etyV y) w5) := Lib.hid (HR5.out.rg.load 0 46 (etyC y) rfl _ Tryz.underlying46 rfl (by kernel_rfl))
 have HM1 : True := trivial
 have HM2 : True := trivial
 go_wp2_with (first
  | (clear HM1; refine wpList_load_is rfl 46 _ rfl (.pointer (some ⟨s3, 0, none⟩)) rfl (etyV y) HLE.out ?_)
  | (go_at_call 55; refine (HCO.out _ (HYK.out.up HB5.out)).mono ?_; rintro e w6 ⟨⟨A6, c6, rfl, ho6⟩, hb⟩; have HO6 := Lib.hid ho6; have HB6 := Lib.hid (HB5.out.trans (hb.mono HB5.out.size)); clear hb ho6; have HZ6 := Lib.hid (HZ.out.up HB6.out))
  | (clear HM2; refine wpList_store_wh rfl 46 _ _ rfl s0 rfl 46 [.int .i64 0, .int .i64 0, .int .i64 0, .int .i64 0, .int .i64 0, .string ⟨#[]⟩, .slice none 0 0] (etyC (y.at A6 c6)) rfl HZ6.out rfl (by kernel_rfl) (by kernel_rfl) ?_; intro w8 hr8 ho8 hz8))
 refine bodyPost_ret (v := .tuple #[etyV (y.at A6 c6), .bool bb]) (results_cell2 Tryz.results45 _ _ s0 (etyC (y.at A6 c6)) _ _ rfl rfl hr8.out.range Tryz.underlying46 rfl (by kernel_rfl)) rfl ⟨⟨A6, c6, rfl, HYL.out, ?_, HYO.out⟩, ?_⟩
 ·have h6 := HO6.out.blk (w' := w8) fun g hg => ho8.out.blk g (HO6.out.lt hg).2 (fun h => by
   have h7 : g = s0 := h
   have := (HO6.out.lt hg).1; have := HB5.out.size; have := HS2.out; omega)
  obtain ⟨A7, c7, e7, h8, -⟩ := h6.reads
  injection e7 with e7 _ _
  show LnkAt w8 A6 Y
  rw [e7]
  exact lnk_row.1 h8
 ·have h9 : Below s0 w w8 := (HB2.out.trans (HB6.out.mono (by have := HS2.out; omega))).trans (ho8.out.below (B := s0) (fun k hk => Nat.le_of_eq hk.symm) (by have := HB6.out.size; have := HS2.out; omega))
  first | exact h9 | (rw [HS0.out]; exact h9)
set_option maxRecDepth 100000 in
set_option maxHeartbeats 3200000 in
theorem jline_any {M : Nat → Prop} {B : Nat} (j : JD) (a b : Int) (w : World) (hj : JK M B w j) (hi : (Lit.int .i64 a).wf = true) (hn : j.n ≤ 100000) : Calls Tryz.prog 47 #[.pointer (some ⟨j.b, 0, none⟩), .agg #[.int .i64 a, .int .i64 b]] w fun e w' => e = .returned (lineV (lineP (fndX j.Xs a).2 b)) ∧ Below w.heap.size w w' := by
 obtain ⟨s0, hs0⟩ : ∃ s0, w.heap.size = s0 := ⟨_, rfl⟩
 obtain ⟨w2, hw2⟩ : ∃ w2, (w.alloc (.cells #[.int .i64 a, .int .i64 b] 32)).alloc (.cells #[.int .i64 0, .int .i64 0, .int .i64 0] 59) = w2 := ⟨_, rfl⟩
 have HAB : Hid (Wh 32 w2 s0 [.int .i64 a, .int .i64 b]) := Lib.hid (by rw [← hw2, ← hs0]; exact (Wh.new w _ _).up (below_alloc_new _))
 have HZ : Hid (Wh 59 w2 (s0 + 1) [.int .i64 0, .int .i64 0, .int .i64 0]) := Lib.hid (by
  rw [← hw2, ← hs0]
  have h9 := Wh.new (w.alloc (.cells #[.int .i64 a, .int .i64 b] 32)) 59 [.int .i64 0, .int .i64 0, .int .i64 0]
  rw [World.size_alloc] at h9
  exact h9)
 have HB2 : Hid (Below s0 w w2) := Lib.hid (by rw [← hw2, ← hs0]; exact below_new (below_alloc_new _) _)
 have HS2 : Hid (w2.heap.size = s0 + 2) := Lib.hid (by rw [← hw2, ← hs0]; simp)
 have HS0 := Lib.hid hs0
 have HBD : Hid (∀ W, (Instr.build 59 #[]).run Tryz.prog W = .ok (.agg #[.int .i64 0, .int .i64 0, .int .i64 0]) W) := Lib.hid (fun W => run_build W 59 _ _ (by kernel_rfl))
 have hj2 := hj.up (HB2.out.mono (Nat.le_of_eq hs0))
 have HF := Lib.hid (find_any j a w2 hj2 hi hn)
 have HYK := Lib.hid (fndX_k hj2.ets.now a)
 have hYn := (fndX_n hj2 a).1
 generalize fndX j.Xs a = yy at *
 generalize fndB j.Xs a = bb at *
 obtain ⟨y, Y⟩ := yy
 have hYl : Y.length = y.n := HYK.out.ln
 have q0 := HAB.out.at 0 _ rfl
 have HM1 : True := trivial
 have HM2 : True := trivial
 have HM3 : True := trivial
 clear hj hj2 hi hn
 by_cases hb0 : b < 0
 ·have hb1 : ¬ (0 : Int) ≤ b := by omega
  rw [lineP_neg (Y := (y, Y).2) hb0]
  go_enter Tryz.func47, Tryz.ntmps47
  go_wp2_with (first
   | (go_at_call 85; refine HF.out.mono ?_; rintro e w3 ⟨rfl, hb⟩; have HB3 := Lib.hid hb; clear hb; obtain ⟨s3, hs3⟩ : ∃ s3, w3.heap.size = s3 := ⟨_, rfl⟩; have HS3 := Lib.hid hs3)
   | (clear HM1; refine wpList_store_wh rfl 46 _ _ rfl s3 rfl 46 [.int .i64 0, .int .i64 0, .int .i64 0, .int .i64 0, .int .i64 0, .string ⟨#[]⟩, .slice none 0 0] (etyC y) rfl (by rw [← HS3.out]; exact Wh.new w3 46 [.int .i64 0, .int .i64 0, .int .i64 0, .int .i64 0, .int .i64 0, .string ⟨#[]⟩, .slice none 0 0]) rfl (by kernel_rfl) (by kernel_rfl) ?_; intro w5 hr5 ho5 hz5; have q6 : w5.cell? ⟨s3, 6, none⟩ = some (.slice y.A y.n y.c) := hr5.out.at 6 _ rfl; have hb5 : Below w3.heap.size w3 w5 := only_new (by rw [HS3.out]; exact ho5.out); have HB5 := Lib.hid (HB3.out.trans (hb5.mono HB3.out.size)); have q1 := (HAB.out.up HB5.out).at 1 _ rfl; have HZ5 := Lib.hid (HZ.out.up HB5.out); clear hr5 ho5 hz5 hb5 hs3 HB3)
   | (refine wpList_build_is rfl 59 _ rfl [] rfl (.agg #[.int .i64 0, .int .i64 0, .int .i64 0]) (HBD.out _) ?_)
   | (clear HM2; refine wpList_store_wh rfl 59 _ _ rfl (s0 + 1) rfl 59 [.int .i64 0, .int .i64 0, .int .i64 0] ([.int .i64 0, .int .i64 0, .int .i64 0]) rfl HZ5.out rfl (by kernel_rfl) (by kernel_rfl) ?_; intro w8 hr8 ho8 hz8))
  refine bodyPost_ret (v := .tuple #[.agg #[.int .i64 0, .int .i64 0, .int .i64 0], .bool false]) (results_cell2 Tryz.results47 _ _ (s0 + 1) ([.int .i64 0, .int .i64 0, .int .i64 0]) _ _ rfl rfl hr8.out.range Tryz.underlying59 rfl (by kernel_rfl)) rfl ⟨rfl, ?_⟩
  have h9 : Below s0 w w8 := (HB2.out.trans (HB5.out.mono (by have := HS2.out; omega))).trans (ho8.out.below (B := s0) (fun k hk => by have h8 : k = s0 + 1 := hk; omega) (by have := HB5.out.size; have := HS2.out; omega))
  first | exact h9 | (rw [HS0.out]; exact h9)
 ·have hb1 : (0 : Int) ≤ b := by omega
  by_cases hb2 : (y.n : Int) ≤ b
  ·rw [lineP_big (Y := (y, Y).2) (by rw [hYl]; exact hb2)]
   go_enter Tryz.func47, Tryz.ntmps47
   go_wp2_with (first
    | (go_at_call 85; refine HF.out.mono ?_; rintro e w3 ⟨rfl, hb⟩; have HB3 := Lib.hid hb; clear hb; obtain ⟨s3, hs3⟩ : ∃ s3, w3.heap.size = s3 := ⟨_, rfl⟩; have HS3 := Lib.hid hs3)
    | (clear HM1; refine wpList_store_wh rfl 46 _ _ rfl s3 rfl 46 [.int .i64 0, .int .i64 0, .int .i64 0, .int .i64 0, .int .i64 0, .string ⟨#[]⟩, .slice none 0 0] (etyC y) rfl (by rw [← HS3.out]; exact Wh.new w3 46 [.int .i64 0, .int .i64 0, .int .i64 0, .int .i64 0, .int .i64 0, .string ⟨#[]⟩, .slice none 0 0]) rfl (by kernel_rfl) (by kernel_rfl) ?_; intro w5 hr5 ho5 hz5; have q6 : w5.cell? ⟨s3, 6, none⟩ = some (.slice y.A y.n y.c) := hr5.out.at 6 _ rfl; have hb5 : Below w3.heap.size w3 w5 := only_new (by rw [HS3.out]; exact ho5.out); have HB5 := Lib.hid (HB3.out.trans (hb5.mono HB3.out.size)); have q1 := (HAB.out.up HB5.out).at 1 _ rfl; have HZ5 := Lib.hid (HZ.out.up HB5.out); clear hr5 ho5 hz5 hb5 hs3 HB3)
    | (refine wpList_build_is rfl 59 _ rfl [] rfl (.agg #[.int .i64 0, .int .i64 0, .int .i64 0]) (HBD.out _) ?_)
    | (clear HM2; refine wpList_store_wh rfl 59 _ _ rfl (s0 + 1) rfl 59 [.int .i64 0, .int .i64 0, .int .i64 0] ([.int .i64 0, .int .i64 0, .int .i64 0]) rfl HZ5.out rfl (by kernel_rfl) (by kernel_rfl) ?_; intro w8 hr8 ho8 hz8))
   refine bodyPost_ret (v := .tuple #[.agg #[.int .i64 0, .int .i64 0, .int .i64 0], .bool false]) (results_cell2 Tryz.results47 _ _ (s0 + 1) ([.int .i64 0, .int .i64 0, .int .i64 0]) _ _ rfl rfl hr8.out.range Tryz.underlying59 rfl (by kernel_rfl)) rfl ⟨rfl, ?_⟩
   have h9 : Below s0 w w8 := (HB2.out.trans (HB5.out.mono (by have := HS2.out; omega))).trans (ho8.out.below (B := s0) (fun k hk => by have h8 : k = s0 + 1 := hk; omega) (by have := HB5.out.size; have := HS2.out; omega))
   first | exact h9 | (rw [HS0.out]; exact h9)
  ·obtain ⟨k, rfl⟩ : ∃ k : Nat, b = (k : Int) := ⟨b.toNat, by omega⟩
   have hkn : k < y.n := by omega
   have hkz : (k : Int) < (y.n : Int) := by omega
   clear hb0 hb1
   obtain ⟨l, hl⟩ : ∃ l, Y[k]? = some l := ⟨_, List.getElem?_eq_getElem (by omega)⟩
   have hlp : lineP (y, Y).2 (k : Int) = some l := by unfold lineP; rw [if_pos (by omega)]; exact hl
   rw [hlp]
   obtain ⟨g, off, hA, hgl, hrg⟩ := (lnk_row.2 HYK.out.hz).at hl
   have HLL : Hid (∀ W, Below w2.heap.size w2 W → (Instr.loadAt 59 (.pointer (some ⟨g, off + k * 3, none⟩))).run Tryz.prog W = .ok (lnkV l) W) := Lib.hid (fun W hW => run_loadAt_mid W g (off + k * 3) 59 (celL l) _ (fun jj v hv => (hW.cell (p := ⟨g, off + k * 3 + jj, none⟩) hgl).trans (hrg jj v hv)) Tryz.underlying59 rfl (by kernel_rfl))
   have HHA := Lib.hid hA
   clear hl hlp hrg hgl hA HYK
   go_enter Tryz.func47, Tryz.ntmps47
   go_wp2_with (first
    | (go_at_call 85; refine HF.out.mono ?_; rintro e w3 ⟨rfl, hb⟩; have HB3 := Lib.hid hb; clear hb; obtain ⟨s3, hs3⟩ : ∃ s3, w3.heap.size = s3 := ⟨_, rfl⟩; have HS3 := Lib.hid hs3)
    | (clear HM1; refine wpList_store_wh rfl 46 _ _ rfl s3 rfl 46 [.int .i64 0, .int .i64 0, .int .i64 0, .int .i64 0, .int .i64 0, .string ⟨#[]⟩, .slice none 0 0] (etyC y) rfl (by rw [← HS3.out]; exact Wh.new w3 46 [.int .i64 0, .int .i64 0, .int .i64 0, .int .i64 0, .int .i64 0, .string ⟨#[]⟩, .slice none 0 0]) rfl (by kernel_rfl) (by kernel_rfl) ?_; intro w5 hr5 ho5 hz5; have q6 : w5.cell? ⟨s3, 6, none⟩ = some (.slice y.A y.n y.c) := hr5.out.at 6 _ rfl; rw [HHA.out] at q6; have hb5 : Below w3.heap.size w3 w5 := only_new (by rw [HS3.out]; exact ho5.out); have HB5 := Lib.hid (HB3.out.trans (hb5.mono HB3.out.size)); have q1 := (HAB.out.up HB5.out).at 1 _ rfl; have HZ5 := Lib.hid (HZ.out.up HB5.out); clear hr5 ho5 hz5 hb5 hs3 HB3)
    | (clear HM3; refine wpList_load_is rfl 59 _ rfl (.pointer (some ⟨g, off + k * 3, none⟩)) rfl (lnkV l) (HLL.out _ HB5.out) ?_)
    | (clear HM2; refine wpList_store_wh rfl 59 _ _ rfl (s0 + 1) rfl 59 [.int .i64 0, .int .i64 0, .int .i64 0] (celL l) rfl HZ5.out rfl (by kernel_rfl) (by kernel_rfl) ?_; intro w8 hr8 ho8 hz8))
   refine bodyPost_ret (v := .tuple #[lnkV l, .bool true]) (results_cell2 Tryz.results47 _ _ (s0 + 1) (celL l) _ _ rfl rfl hr8.out.range Tryz.underlying59 rfl (by kernel_rfl)) rfl ⟨rfl, ?_⟩
   have h9 : Below s0 w w8 := (HB2.out.trans (HB5.out.mono (by have := HS2.out; omega))).trans (ho8.out.below (B := s0) (fun k hk => by have h8 : k = s0 + 1 := hk; omega) (by have := HB5.out.size; have := HS2.out; omega))
   first | exact h9 | (rw [HS0.out]; exact h9)
def LnJ (w : World) (s0 : Nat) (a i : Int) (l : Lnk) (k : Nat) (_ : List Value) (W : World) : Prop := Below s0 w W ∧ s0 ≤ W.heap.size ∧ Wh 32 W s0 [.int .i64 a, .int .i64 i] ∧ (k = 0 → Wh 59 W (s0 + 1) [.int .i64 0, .int .i64 0, .int .i64 0]) ∧ (k = 1 → Wh 59 W (s0 + 1) (celL l))
theorem LnJ.st {w W W' : World} {s0 k : Nat} {a i : Int} {l : Lnk} {v : List Value} (hb : Below W.heap.size W W') (h : LnJ w s0 a i l k v W) : LnJ w s0 a i l k v W' :=
 ⟨h.1.trans (hb.mono h.2.1), Nat.le_trans h.2.1 hb.size, h.2.2.1.up hb, fun e => (h.2.2.2.1 e).up hb, fun e => (h.2.2.2.2 e).up hb⟩
theorem wp_store_wh {P : Program} {o : Oper} {a : Act} {w : World} {K : Act → World → Prop} {Q : Exit → Act → World → Prop} (ty : TypeId) (x y : Operand) (hop : o.op = .store ty x y)
  (b : Nat) (hx : a.eval x = .pointer (some ⟨b, 0, none⟩)) (t : TypeId) (cs vs : List Value) (hy : a.eval y = .agg vs.toArray) (hw : Wh t w b cs) (hl : vs.length = cs.length)
  (hi : (P.info? ty).map (·.size) = some vs.toArray.size) (h1 : vs.toArray.all (·.oneCell') = true)
  (h : ∀ W, Hid (Wh t W b vs) → Hid (Only (fun k => k = b) w W) → W.heap.size = w.heap.size → K (a.put o.dst undef) W) : Oper.wp P o a w K Q :=
 wp_store_mid ty x y hop b 0 vs.toArray hx hy (hw.there (by simp [hl])) hi h1 (h _ (Lib.hid (hw.put vs hl)) (Lib.hid (Only.setCells (S := fun k => k = b) rfl vs 0 w)) (by
  have : ∀ (vs : List Value) (o : Nat) (w : World), (w.setCells b o vs).heap.size = w.heap.size := by
   intro vs
   induction vs with
   | nil => intro o w; rfl
   | cons v r ih => intro o w; rw [World.setCells, ih]; exact World.size_setCell _ _ _
  exact this _ _ _))
def rlnF (bb off n c k s0 g o2 i : Nat) (y : Ety) (l : Lnk) : List (Nat × AK.Fact (SizeUp)) := [(30, AK.Fact.is (.slice (some ⟨bb, off, none⟩) n c)), (31, AK.Fact.is (.int .i64 (k : Int))), (32, AK.Fact.is (.pointer (some ⟨bb, off + k * 7, none⟩))), (33, AK.Fact.is (.pointer (some ⟨bb, off + k * 7 + 6, none⟩))), (34, AK.Fact.is (.slice (some ⟨g, o2, none⟩) y.n y.c)), (35, AK.Fact.is (.pointer (some ⟨s0, 1, none⟩))), (36, AK.Fact.is (.int .i64 (i : Int))), (37, AK.Fact.is (.pointer (some ⟨g, o2 + i * 3, none⟩))), (38, AK.Fact.is (lnkV l)), (5, AK.Fact.is (.bool true))]
set_option maxRecDepth 100000 in
set_option maxHeartbeats 12800000 in
theorem r12line_any (A : Option Addr) (c : Nat) (Xs : List Etl) (a b : Int) (w : World) (hz : RowAt lyX w A (Xs.map (·.1))) (hzs : EtysK w Xs) (hl : Xs.length ≤ 100000) : Calls Tryz.prog 48 #[.slice A Xs.length c, .agg #[.int .i64 a, .int .i64 b]] w fun e w' => e = .returned (lineV (lineP (fndX Xs a).2 b)) ∧ Below w.heap.size w w' := by
 obtain ⟨n, hn⟩ : ∃ n, Xs.length = n := ⟨_, rfl⟩
 obtain ⟨s0, hs0⟩ : ∃ s0, w.heap.size = s0 := ⟨_, rfl⟩
 obtain ⟨w2, hw2⟩ : ∃ w2, (w.alloc (.cells #[.int .i64 a, .int .i64 b] 32)).alloc (.cells #[.int .i64 0, .int .i64 0, .int .i64 0] 59) = w2 := ⟨_, rfl⟩
 have HAB : Hid (Wh 32 w2 s0 [.int .i64 a, .int .i64 b]) := Lib.hid (by rw [← hw2, ← hs0]; exact (Wh.new w _ _).up (below_alloc_new _))
 have HZ : Hid (Wh 59 w2 (s0 + 1) [.int .i64 0, .int .i64 0, .int .i64 0]) := Lib.hid (by
  rw [← hw2, ← hs0]
  have h9 := Wh.new (w.alloc (.cells #[.int .i64 a, .int .i64 b] 32)) 59 [.int .i64 0, .int .i64 0, .int .i64 0]
  rw [World.size_alloc] at h9
  exact h9)
 have HB2 : Hid (Below s0 w w2) := Lib.hid (by rw [← hw2, ← hs0]; exact below_new (below_alloc_new _) _)
 have HS2 : Hid (w2.heap.size = s0 + 2) := Lib.hid (by rw [← hw2, ← hs0]; simp)
 have HS0 := Lib.hid hs0
 have HLOW : Hid (∀ W W', Below w2.heap.size w2 W → Only (fun k => k = s0 + 1) W W' → Below s0 w W') := Lib.hid (fun W W' h1 h2 => (HB2.out.trans (h1.mono (by have := HS2.out; omega))).trans (h2.below (B := s0) (fun k hk => by have h8 : k = s0 + 1 := hk; omega) (by have := h1.size; have := HS2.out; omega)))
 have HBD : Hid (∀ W, (Instr.build 59 #[]).run Tryz.prog W = .ok (.agg #[.int .i64 0, .int .i64 0, .int .i64 0]) W) := Lib.hid (fun W => run_build W 59 _ _ (by kernel_rfl))
 have hz2 := hz.up (hs0.symm ▸ HB2.out)
 have HGE := Lib.hid (r12get_any A c Xs a w2 hz2 hl)
 rw [hn] at HGE hl ⊢
 have q1 := HAB.out.at 1 _ rfl
 have q0 := HAB.out.at 0 _ rfl
 have hno := fndX_no (Xs := Xs) (id := a)
 have hyes := fndX_yes (Xs := Xs) (id := a)
 have hkk := fndX_k hzs a
 unfold getP at HGE
 rw [List.length_map, hn] at HGE
 unfold fndB at hno hyes
 rw [hn] at hno hyes
 by_cases hf : idxP (Xs.map pe) a < n
 ·rw [if_pos hf] at HGE
  have hy := hyes (decide_eq_true hf)
  have HNN := Lib.hid hn
  generalize fndX Xs a = yy at *
  generalize idxP (Xs.map pe) a = k at *
  obtain ⟨y, Y⟩ := yy
  have hym : (Xs.map (·.1))[k]? = some y := by rw [List.getElem?_map, hy]; rfl
  obtain ⟨bb, off, hA, hbl, hrg⟩ := hz.at hym
  rw [hs0] at hbl
  subst hA
  have HC6 : Hid (∀ W, Below s0 w W → W.cell? ⟨bb, off + k * 7 + 6, none⟩ = some (.slice y.A y.n y.c)) := Lib.hid (fun W hW => (hW.cell (p := ⟨bb, off + k * 7 + 6, none⟩) hbl).trans (hrg 6 _ rfl))
  have c6 := HC6.out _ HB2.out
  have hkz : (k : Int) < (n : Int) := by omega
  have hk0 : decide ((k : Int) < 0) = false := decide_eq_false (by omega)
  have HKZ := Lib.hid hkz
  have hYl : Y.length = y.n := hkk.ln
  clear hno hyes hy hym hrg hz hzs hn hf
  by_cases hb0 : b < 0
  ·have hb1 : decide (b < 0) = true := decide_eq_true hb0
   rw [lineP_neg (Y := (y, Y).2) hb0]
   clear hkk hb0
   go_enter Tryz.func48, Tryz.ntmps48
   go_upto_region 2 with (go_at_call 21; refine HGE.out.mono ?_; rintro e w3 ⟨rfl, hW⟩; have hW2 := hW.symm; subst hW2; have HWW : Hid (w3 = w3) := Lib.hid rfl; clear hW)
   go_quiet (fail)
   have HB9 : Hid (Below w3.heap.size w3 (World.drewN w3 nq)) := Lib.hid (below_drewN (Below.refl _ _) nq)
   generalize World.drewN _ nq = W1 at *
   go_wp2_with (first
    | (refine wpList_build_is rfl 59 _ rfl [] rfl (.agg #[.int .i64 0, .int .i64 0, .int .i64 0]) (HBD.out _) ?_)
    | (refine wpList_store_wh rfl 59 _ _ rfl (s0 + 1) rfl 59 [.int .i64 0, .int .i64 0, .int .i64 0] [.int .i64 0, .int .i64 0, .int .i64 0] rfl (HZ.out.up HB9.out) rfl (by kernel_rfl) (by kernel_rfl) ?_; intro w8 hr8 ho8 hz8))
   refine bodyPost_ret (v := .tuple #[.agg #[.int .i64 0, .int .i64 0, .int .i64 0], .bool false]) (results_cell2 Tryz.results48 _ _ (s0 + 1) [.int .i64 0, .int .i64 0, .int .i64 0] _ _ rfl rfl hr8.out.range Tryz.underlying59 rfl (by kernel_rfl)) rfl ⟨rfl, ?_⟩
   have h9 := HLOW.out _ _ HB9.out ho8.out
   first | exact h9 | (rw [HS0.out]; exact h9)
  ·have hb1 : decide (b < 0) = false := decide_eq_false hb0
   by_cases hb2 : (y.n : Int) ≤ b
   ·rw [lineP_big (Y := (y, Y).2) (by rw [hYl]; exact hb2)]
    have hb3 : decide (b ≥ (y.n : Int)) = true := decide_eq_true hb2
    have hb4 : decide ((y.n : Int) ≤ b) = true := decide_eq_true hb2
    clear hkk hb0 hb2
    go_enter Tryz.func48, Tryz.ntmps48
    go_upto_region 2 with (go_at_call 21; refine HGE.out.mono ?_; rintro e w3 ⟨rfl, hW⟩; have hW2 := hW.symm; subst hW2; have HWW : Hid (w3 = w3) := Lib.hid rfl; clear hW)
    go_quiet (fail)
    have HB9 : Hid (Below w3.heap.size w3 (World.drewN w3 nq)) := Lib.hid (below_drewN (Below.refl _ _) nq)
    generalize World.drewN _ nq = W1 at *
    go_wp2_with (first
     | (refine wpList_build_is rfl 59 _ rfl [] rfl (.agg #[.int .i64 0, .int .i64 0, .int .i64 0]) (HBD.out _) ?_)
     | (refine wpList_store_wh rfl 59 _ _ rfl (s0 + 1) rfl 59 [.int .i64 0, .int .i64 0, .int .i64 0] [.int .i64 0, .int .i64 0, .int .i64 0] rfl (HZ.out.up HB9.out) rfl (by kernel_rfl) (by kernel_rfl) ?_; intro w8 hr8 ho8 hz8))
    refine bodyPost_ret (v := .tuple #[.agg #[.int .i64 0, .int .i64 0, .int .i64 0], .bool false]) (results_cell2 Tryz.results48 _ _ (s0 + 1) [.int .i64 0, .int .i64 0, .int .i64 0] _ _ rfl rfl hr8.out.range Tryz.underlying59 rfl (by kernel_rfl)) rfl ⟨rfl, ?_⟩
    have h9 := HLOW.out _ _ HB9.out ho8.out
    first | exact h9 | (rw [HS0.out]; exact h9)
   ·have hb3 : decide (b ≥ (y.n : Int)) = false := decide_eq_false hb2
    have hb4 : decide ((y.n : Int) ≤ b) = false := decide_eq_false hb2
    obtain ⟨i, rfl⟩ : ∃ i : Nat, b = (i : Int) := ⟨b.toNat, by omega⟩
    have hin : i < y.n := by omega
    obtain ⟨l, hl2⟩ : ∃ l, Y[i]? = some l := ⟨_, List.getElem?_eq_getElem (by omega)⟩
    have hlp : lineP (y, Y).2 (i : Int) = some l := by unfold lineP; rw [if_pos (by omega)]; exact hl2
    rw [hlp]
    obtain ⟨g, o2, hA2, hgl, hrg2⟩ := (lnk_row.2 hkk.hz).at hl2
    rw [hs0] at hgl
    have HLL : Hid (∀ W, Below s0 w W → (Instr.loadAt 59 (.pointer (some ⟨g, o2 + i * 3, none⟩))).run Tryz.prog W = .ok (lnkV l) W) := Lib.hid (fun W hW => run_loadAt_mid W g (o2 + i * 3) 59 (celL l) _ (fun jj v hv => (hW.cell (p := ⟨g, o2 + i * 3 + jj, none⟩) hgl).trans (hrg2 jj v hv)) Tryz.underlying59 rfl (by kernel_rfl))
    have HIZ : Hid ((i : Int) < (y.n : Int)) := Lib.hid (by omega)
    rw [hA2] at HC6 c6
    clear hkk hb0 hb2 hl2 hlp hgl hrg2 hA2
    go_enter Tryz.func48, Tryz.ntmps48
    go_upto_region 2 with (go_at_call 21; refine HGE.out.mono ?_; rintro e w3 ⟨rfl, hW⟩; have hW2 := hW.symm; subst hW2; clear hW)
    go_quiet (fail)
    have HB9 : Hid (Below w3.heap.size w3 (World.drewN w3 nq)) := Lib.hid (below_drewN (Below.refl _ _) nq)
    generalize World.drewN _ nq = W1 at *
    have HJ0 : Hid (LnJ w s0 a (i : Int) l 0 [] W1.drew) := Lib.hid ⟨dc_drew (HB2.out.trans (HB9.out.mono (by have := HS2.out; omega))), (by have := HB9.out.size; have := HS2.out; show s0 ≤ W1.heap.size; omega), (HAB.out.up (dc_drew HB9.out)), (fun _ => HZ.out.up (dc_drew HB9.out)), fun h => by cases h⟩
    go_upto_region 4 with fail
    try simp only [show decide (y.n ≤ i) = false from decide_eq_false (by omega)]
    clear hk0 hb1 hb3 hb4 hin q0 q1 c6 hkz
    refine AK.region_facts (Rp := Below0) (Kp := SizeUp) (rlnF bb off n c k s0 g o2 i y l) (LnJ w s0 a (i : Int) l) [[], [], [30, 31], [32], [33], [], [35], [34, 36], [37], [38], []] [9] [[], []] [0, 0, 0, 0, 0, 0, 0, 0, 0, 1, 1] [0, 0, 0, 0, 0, 0, 0, 0, 0, 0, 0] [] (fun u => by simp only [rlnF, AK.temps, List.map_cons, List.map_nil, fillL, List.setIfInBounds_toArray, List.set_cons_zero, List.set_cons_succ]; rfl) (by kernel_rfl) (by kernel_rfl) (fun _ _ h => h) (fun _ _ h => h.size) (fun _ _ _ _ hb h => h.st hb) (HJ0.out) ?_ ?_
    ·refine AK.sc (lim := 0) (lo := 0) rfl rfl rfl rfl ?_ ?_
     ·intro k_ u w_ hk_ hl_ hJ hF K hK
      obtain rfl : k_ = 0 := by omega
      clear hF
      go_simp
      exact hK.out _ _ (Below.refl _ _) (rfl) trivial
     refine AK.sc (lim := 0) (lo := 0) rfl rfl rfl rfl ?_ ?_
     ·intro k_ u w_ hk_ hl_ hJ hF K hK
      obtain rfl : k_ = 0 := by omega
      clear hF
      go_simp
      exact hK.out _ _ (Below.refl _ _) (rfl) trivial
     refine AK.sc (lim := 0) (lo := 0) rfl rfl rfl rfl ?_ ?_
     ·intro k_ u w_ hk_ hl_ hJ hF K hK
      obtain rfl : k_ = 0 := by omega
      have h30 : u 30 = .slice (some ⟨bb, off, none⟩) n c := AK.facts_get hF 30 (by simp)
      have h31 : u 31 = .int .i64 (k : Int) := AK.facts_get hF 31 (by simp)
      clear hF
      simp only [h30, h31] at hK ⊢
      clear h30 h31
      have hz_ := HKZ.out
      go_simp
      exact hK.out _ _ (Below.refl _ _) (rfl) trivial
     refine AK.sc (lim := 0) (lo := 0) rfl rfl rfl rfl ?_ ?_
     ·intro k_ u w_ hk_ hl_ hJ hF K hK
      obtain rfl : k_ = 0 := by omega
      have h32 : u 32 = .pointer (some ⟨bb, off + k * 7, none⟩) := AK.facts_get hF 32 (by simp)
      clear hF
      simp only [h32] at hK ⊢
      clear h32
      go_simp
      exact hK.out _ _ (Below.refl _ _) (rfl) trivial
     refine AK.sc (lim := 0) (lo := 0) rfl rfl rfl rfl ?_ ?_
     ·intro k_ u w_ hk_ hl_ hJ hF K hK
      obtain rfl : k_ = 0 := by omega
      have h33 : u 33 = .pointer (some ⟨bb, off + k * 7 + 6, none⟩) := AK.facts_get hF 33 (by simp)
      clear hF
      simp only [h33] at hK ⊢
      clear h33
      have c_ := HC6.out _ hJ.1
      go_simp
      exact hK.out _ _ (Below.refl _ _) (rfl) trivial
     refine AK.sc (lim := 0) (lo := 0) rfl rfl rfl rfl ?_ ?_
     ·intro k_ u w_ hk_ hl_ hJ hF K hK
      obtain rfl : k_ = 0 := by omega
      clear hF
      go_simp
      exact hK.out _ _ (Below.refl _ _) (rfl) trivial
     refine AK.sc (lim := 0) (lo := 0) rfl rfl rfl rfl ?_ ?_
     ·intro k_ u w_ hk_ hl_ hJ hF K hK
      obtain rfl : k_ = 0 := by omega
      have h35 : u 35 = .pointer (some ⟨s0, 1, none⟩) := AK.facts_get hF 35 (by simp)
      clear hF
      simp only [h35] at hK ⊢
      clear h35
      have c_ := hJ.2.2.1.at 1 _ rfl
      go_simp
      exact hK.out _ _ (Below.refl _ _) (rfl) trivial
     refine AK.sc (lim := 0) (lo := 0) rfl rfl rfl rfl ?_ ?_
     ·intro k_ u w_ hk_ hl_ hJ hF K hK
      obtain rfl : k_ = 0 := by omega
      have h34 : u 34 = .slice (some ⟨g, o2, none⟩) y.n y.c := AK.facts_get hF 34 (by simp)
      have h36 : u 36 = .int .i64 (i : Int) := AK.facts_get hF 36 (by simp)
      clear hF
      simp only [h34, h36] at hK ⊢
      clear h34 h36
      have hz_ := HIZ.out
      go_simp
      exact hK.out _ _ (Below.refl _ _) (rfl) trivial
     refine AK.sc (lim := 0) (lo := 0) rfl rfl rfl rfl ?_ ?_
     ·intro k_ u w_ hk_ hl_ hJ hF K hK
      obtain rfl : k_ = 0 := by omega
      have h37 : u 37 = .pointer (some ⟨g, o2 + i * 3, none⟩) := AK.facts_get hF 37 (by simp)
      clear hF
      simp only [h37] at hK ⊢
      clear h37
      refine wp_load_is 59 _ rfl (.pointer (some ⟨g, o2 + i * 3, none⟩)) rfl (lnkV l) (HLL.out _ hJ.1) ?_
      exact hK.out _ _ (Below.refl _ _) rfl trivial
     refine AK.ss rfl rfl ?_ ?_
     ·intro u w_ hJ hA_ hF K hK
      have h38 : u 38 = lnkV l := AK.facts_get hF 38 (by simp)
      clear hF
      simp only [h38] at hK ⊢
      clear h38
      refine wp_store_wh 59 _ _ rfl (s0 + 1) rfl 59 [.int .i64 0, .int .i64 0, .int .i64 0] (celL l) rfl (hJ.2.2.2.1 rfl) rfl (by kernel_rfl) (by kernel_rfl) ?_
      intro W hr ho hz
      exact hK.out undef _ ⟨hJ.1.trans (ho.out.below (B := s0) (fun k hk => by have h8 : k = s0 + 1 := hk; omega) hJ.2.1), Nat.le_trans hJ.2.1 ho.out.size, hJ.2.2.1.only ho.out (fun e => by have h8 : s0 = s0 + 1 := e; omega), (fun h => by cases h), fun _ => hr.out⟩ (Nat.le_of_eq hz.symm) trivial
     refine AK.sc (lim := 1) (lo := 0) rfl rfl rfl rfl ?_ ?_
     ·intro k_ u w_ hk_ hl_ hJ hF K hK
      clear hF
      go_simp
      exact hK.out _ _ (Below.refl _ _) (rfl) trivial
     exact AK.StepsOk.nil
    ·intro u W9 hJ9 hF
     have h5 : u 5 = .bool true := AK.facts_get hF 5 (by simp [rlnF, AK.temps])
     clear hF
     have hr9 := hJ9.2.2.2.2 rfl
     have hb9 := hJ9.1
     simp only [h5]
     clear hJ9 h5
     go_wp2_with fail
     refine bodyPost_ret (v := .tuple #[lnkV l, .bool true]) (results_cell2 Tryz.results48 _ _ (s0 + 1) (celL l) _ _ rfl rfl hr9.range Tryz.underlying59 rfl (by kernel_rfl)) rfl ⟨rfl, ?_⟩
     have h9 := hb9
     first | exact h9 | (rw [HS0.out]; exact h9)
 ·rw [if_neg hf] at HGE
  rw [hno (decide_eq_false hf)]
  have hb1 : decide ((-1 : Int) < 0) = true := by decide
  have hlp : lineP (ety0, ([] : List Lnk)).2 b = none := by unfold lineP; split <;> simp
  rw [hlp]
  clear hno hyes hkk hz hzs hf hn hz2 hlp
  go_enter Tryz.func48, Tryz.ntmps48
  go_upto_region 2 with (go_at_call 21; refine HGE.out.mono ?_; rintro e w3 ⟨rfl, hW⟩; have hW2 := hW.symm; subst hW2; have HWW : Hid (w3 = w3) := Lib.hid rfl; clear hW)
  go_quiet (fail)
  have HB9 : Hid (Below w3.heap.size w3 (World.drewN w3 nq)) := Lib.hid (below_drewN (Below.refl _ _) nq)
  generalize World.drewN _ nq = W1 at *
  go_wp2_with (first
   | (refine wpList_build_is rfl 59 _ rfl [] rfl (.agg #[.int .i64 0, .int .i64 0, .int .i64 0]) (HBD.out _) ?_)
   | (refine wpList_store_wh rfl 59 _ _ rfl (s0 + 1) rfl 59 [.int .i64 0, .int .i64 0, .int .i64 0] [.int .i64 0, .int .i64 0, .int .i64 0] rfl (HZ.out.up HB9.out) rfl (by kernel_rfl) (by kernel_rfl) ?_; intro w8 hr8 ho8 hz8))
  refine bodyPost_ret (v := .tuple #[.agg #[.int .i64 0, .int .i64 0, .int .i64 0], .bool false]) (results_cell2 Tryz.results48 _ _ (s0 + 1) [.int .i64 0, .int .i64 0, .int .i64 0] _ _ rfl rfl hr8.out.range Tryz.underlying59 rfl (by kernel_rfl)) rfl ⟨rfl, ?_⟩
  have h9 := HLOW.out _ _ HB9.out ho8.out
  first | exact h9 | (rw [HS0.out]; exact h9)
structure CopP (w : World) (B : Nat) (v : Value) (Zs : List Etl) : Prop where
 row : OwnR lyX 46 w B v (Zs.map (·.1))
 lns : ∀ p ∈ Zs, p.2.length = p.1.n ∧ (∀ l ∈ p.2, okK (kOf l) ∧ (Lit.int .i64 l.tgt).wf = true) ∧ OwnR lyL 59 w B (.slice p.1.A p.1.n p.1.c) p.2
section
variable {w w' : World} {B : Nat} {v v' : Value} {Zs : List Etl}
theorem CopP.up (h : CopP w B v Zs) (hb : Below w.heap.size w w') : CopP w' B v Zs := ⟨h.row.up hb, fun p hp => ⟨(h.lns p hp).1, (h.lns p hp).2.1, (h.lns p hp).2.2.up hb⟩⟩
def CopQ (B : Nat) (Es : List PE) (e : Ending) (w' : World) : Prop := ∃ v Zs, e = .returned v ∧ CopP w' B v Zs ∧ Zs.map pe = Es
theorem CopQ.mk {Es : List PE} (h : CopP w' B v Zs) (he : Zs.map pe = Es) : CopQ B Es (.returned v) w' := ⟨v, Zs, rfl, h, he⟩
theorem own_ety {p : Etl} (h : p.2.length = p.1.n ∧ (∀ l ∈ p.2, okK (kOf l) ∧ (Lit.int .i64 l.tgt).wf = true) ∧ OwnR lyL 59 w B (.slice p.1.A p.1.n p.1.c) p.2) : EtyK w p.1 p.2 := by
 obtain ⟨h1, h2, h3⟩ := h
 obtain ⟨A', c', e, hr, -⟩ := h3.reads
 injection e with e _ _
 exact ⟨h1, by rw [e]; exact lnk_row.1 hr, h2⟩
theorem CopP.etys (h : CopP w B v Zs) : EtysK w Zs := fun p hp => own_ety (h.lns p hp)
theorem CopP.snoc {p : Etl} (h : CopP w B v Zs) (hg : w.grownBy w' v.ownBlock) (hr : OwnR lyX 46 w' B v' (Zs.map (·.1) ++ [p.1])) (hp : p.2.length = p.1.n ∧ (∀ l ∈ p.2, okK (kOf l) ∧ (Lit.int .i64 l.tgt).wf = true) ∧ OwnR lyL 59 w B (.slice p.1.A p.1.n p.1.c) p.2) : CopP w' B v' (Zs ++ [p]) := by
 have key : ∀ q : Etl, OwnR lyL 59 w B (.slice q.1.A q.1.n q.1.c) q.2 → OwnR lyL 59 w' B (.slice q.1.A q.1.n q.1.c) q.2 := fun q h1 => h1.blk fun g h2 => hg.block g (h1.lt h2).2 (fun e => own_apart h1 h.row (by decide) h2 e.symm)
 refine ⟨by rw [List.map_append]; exact hr, fun q hq => ?_⟩
 rcases List.mem_append.1 hq with h1 | h1
 ·exact ⟨(h.lns q h1).1, (h.lns q h1).2.1, key q (h.lns q h1).2.2⟩
 ·simp at h1
  rw [h1]
  exact ⟨hp.1, hp.2.1, key p hp.2.2⟩
end
theorem grown_below0 {α : Type} {R : Lay α} {e : TypeId} {w w' : World} {B : Nat} {v : Value} {L : List α} (h : OwnR R e w B v L) (hg : w.grownBy w' v.ownBlock) (hB : B ≤ w.heap.size) : Below B w w' :=
 (Only.grown (S := fun k => v.ownBlock = some k) hg fun k hk => hk).below (fun k hk => (h.lt hk).1) hB
set_option maxRecDepth 100000 in
theorem ent1_any (x : Ety) (w : World) : Calls Tryz.prog 58 #[etyV x] w fun e w' => e = .returned (.bool true) ∧ Below w.heap.size w w' := by
 obtain ⟨xs, hxs⟩ : ∃ xs, (etyC x).toArray = xs := ⟨_, rfl⟩
 have hxV : etyV x = .agg xs := by rw [etyV_is, hxs]
 rw [hxV]
 have HB := Lib.hid (fun o => below_alloc_new (w := w) o)
 go_enter Tryz.func58, Tryz.ntmps58
 go_wp2_with fail
 go_ret
 exact ⟨rfl, HB.out _⟩
set_option maxRecDepth 100000 in
set_option maxHeartbeats 6400000 in
theorem copall_any (A : Option Addr) (c : Nat) (Xs : List Etl) (w : World) (hz : RowAt lyX w A (Xs.map (·.1))) (hzs : EtysK w Xs) (hzn : ∀ p ∈ Xs, p.2.length ≤ 1000) (hl : Xs.length ≤ 100000) : Calls Tryz.prog 50 #[.slice A Xs.length c, .func (.func 58) #[] #[]] w fun e w' => CopQ w.heap.size (Xs.map pe) e w' ∧ Below w.heap.size w w' := by
 obtain ⟨i0, hi, hz1, hz2, hz3⟩ := info_parts infoEx
 obtain ⟨n, hn⟩ : ∃ n, Xs.length = n := ⟨_, rfl⟩
 rw [hn] at hl ⊢
 obtain ⟨B0, hB0⟩ : ∃ B0, w.heap.size = B0 := ⟨_, rfl⟩
 have HB0 := Lib.hid hB0
 have HN := Lib.hid hn
 have HZ := Lib.hid hz
 have HZS := Lib.hid hzs
 have HZN := Lib.hid hzn
 have HL := Lib.hid hl
 clear hn hz hzs hzn
 go_enter Tryz.func50, Tryz.ntmps50
 go_wp2_with fail
 go_loopg [5, 10] n (fun kx s5 s10 wr => ∃ (k : Nat) (Zs : List Etl), s10 = .int .i64 k ∧ k ≤ n ∧ n - k ≤ kx ∧ Hid (CopP wr B0 s5 Zs) ∧ Hid (Zs.map pe = (Xs.take k).map pe) ∧ Hid (Below B0 w wr))
 case atStart => exact ⟨0, [], rfl, by omega, by omega, Lib.hid ⟨OwnR.nil, fun p hp => by cases hp⟩, Lib.hid rfl, Lib.hid (Below.refl _ _)⟩
 case round =>
  obtain ⟨k, Zs, rfl, hk, hkx, HC, HE, HB⟩ := hrel
  by_cases hlt : k < n
  ·have hltz : (k : Int) < (n : Int) := by omega
   obtain ⟨q, hq⟩ : ∃ q, Xs[k]? = some q := ⟨_, List.getElem?_eq_getElem (by rw [HN.out]; exact hlt)⟩
   obtain ⟨y, Y⟩ := q
   have hmem : (y, Y) ∈ Xs := List.mem_of_getElem? hq
   have hYK := HZS.out _ hmem
   have HYK : Hid (EtyK w y Y) := Lib.hid hYK
   have HYn : Hid (y.n ≤ 1000) := Lib.hid (by have h1 : Y.length ≤ 1000 := HZN.out _ hmem; have h2 : Y.length = y.n := hYK.ln; omega)
   have HYL : Hid (Y.length = y.n) := Lib.hid hYK.ln
   have HYO : Hid (∀ l ∈ Y, okK (kOf l) ∧ (Lit.int .i64 l.tgt).wf = true) := Lib.hid hYK.ok
   obtain ⟨b, off, hA, hbl, hrg⟩ := HZ.out.at (i := k) (a := y) (by rw [List.getElem?_map, hq]; rfl)
   subst hA
   have HLY : Hid (∀ W, Below B0 w W → (Instr.loadAt 46 (.pointer (some ⟨b, off + k * 7, none⟩))).run Tryz.prog W = .ok (etyV y) W) := Lib.hid (fun W hW => run_loadAt_mid W b (off + k * 7) 46 (etyC y) _ (fun jj v hv => (hW.cell (p := ⟨b, off + k * 7 + jj, none⟩) (by rw [← HB0.out]; exact hbl)).trans (hrg jj v hv)) Tryz.underlying46 rfl (by kernel_rfl))
   have HTK : Hid ((Xs.take (k + 1)).map pe = (Xs.take k).map pe ++ [pe (y, Y)]) := Lib.hid (by rw [List.take_add_one, hq, List.map_append]; rfl)
   have HLC : Hid (Zs.length = k) := Lib.hid (by have h := congrArg List.length HE.out; rw [List.length_map, List.length_map, List.length_take] at h; have := HN.out; omega)
   obtain ⟨sr, hsr⟩ : ∃ sr, wr.heap.size = sr := ⟨_, rfl⟩
   have HSR := Lib.hid hsr
   have HM0 : True := trivial
   clear hq hmem hYK hrg hbl
   go_upto_region 5 with (first
    | (clear HM0; refine wpList_load_is rfl 46 _ rfl (.pointer (some ⟨b, off + k * 7, none⟩)) rfl (etyV y) (HLY.out _ HB.out) ?_)
    | (refine wpList_store_wh rfl 46 _ _ rfl sr rfl 46 [.int .i64 0, .int .i64 0, .int .i64 0, .int .i64 0, .int .i64 0, .string ⟨#[]⟩, .slice none 0 0] (etyC y) rfl (by rw [← HSR.out]; exact Wh.new wr 46 [.int .i64 0, .int .i64 0, .int .i64 0, .int .i64 0, .int .i64 0, .string ⟨#[]⟩, .slice none 0 0]) rfl (by kernel_rfl) (by kernel_rfl) ?_; intro w5 hr5 ho5 hz5; have HR5 := Lib.hid hr5.out; have hb5 : Below wr.heap.size wr w5 := only_new (by rw [HSR.out]; exact ho5.out); have HC5 := Lib.hid (HC.out.up hb5); have HB5 := Lib.hid (HB.out.trans (hb5.mono (by have := HB.out.size; have := HB0.out; omega))); clear hr5 ho5 hz5 hb5 hsr HC HB))
   have HLE : Hid (∀ W, Below w5.heap.size w5 W → (Instr.loadAt 46 (.pointer (some ⟨sr, 0, none⟩))).run Tryz.prog W = .ok (etyV y) W) := Lib.hid (fun W hW => (HR5.out.up hW).rg.load 0 46 (etyC y) rfl _ Tryz.underlying46 rfl (by kernel_rfl))
   obtain ⟨YV, hYV⟩ : ∃ YV, YV = etyV y := ⟨_, rfl⟩
   have HE1 := Lib.hid (fun W => ent1_any y W)
   have HCO := Lib.hid (fun W (h : EtyK W y Y) => copyof_any y Y W h HYn.out)
   rw [← hYV] at HLE HE1 HCO
   clear hYV
   have HM1 : True := trivial
   have HM2 : True := trivial
   go_wp2_with (first
    | (clear HM1; refine wpList_load_is rfl 46 _ rfl (.pointer (some ⟨sr, 0, none⟩)) rfl YV (HLE.out _ (Below.refl _ _)) ?_)
    | (clear HM2; refine wpList_load_is rfl 46 _ rfl (.pointer (some ⟨sr, 0, none⟩)) rfl YV (HLE.out _ HB6.out) ?_)
    | (go_at_call 58; refine (HE1.out _).mono ?_; rintro e w6 ⟨rfl, hb⟩; have HB6 := Lib.hid hb; clear hb)
    | (go_at_call 55; refine (HCO.out _ (HYK.out.up ((HB5.out.trans (HB6.out.mono (by have := HB5.out.size; have := HB0.out; omega))).mono (Nat.le_of_eq HB0.out)))).mono ?_; rintro e w7 ⟨⟨A6, c6, rfl, ho7⟩, hb⟩; have HO7 := Lib.hid ho7; have HB7 := Lib.hid (HB6.out.trans (hb.mono HB6.out.size)); clear hb ho7; rw [show etyV (y.at A6 c6) = .agg #[.int .i64 y.id, .int .i64 y.ent, .int .i64 y.day, .int .i64 y.kind, .int .i64 y.of_, .string y.txt, .slice A6 y.n c6] from rfl]; have HBX := Lib.hid (below_alloc_new (w := w7) (.cells #[.int .i64 y.id, .int .i64 y.ent, .int .i64 y.day, .int .i64 y.kind, .int .i64 y.of_, .string y.txt, .slice A6 y.n c6] 46)); have HWX : Hid (Wh 46 (w7.alloc (.cells #[.int .i64 y.id, .int .i64 y.ent, .int .i64 y.day, .int .i64 y.kind, .int .i64 y.of_, .string y.txt, .slice A6 y.n c6] 46)) w7.heap.size (etyC (y.at A6 c6))) := Lib.hid (Wh.new w7 46 (etyC (y.at A6 c6))); have HC7 := Lib.hid ((HC5.out.up HB7.out).up HBX.out); have HO8 := Lib.hid (HO7.out.up HBX.out))
    | (refine wpList_app_row (R := lyX) rfl _ _ 30 rfl i0 _ 80 Tryz.underlying30 hi hz1 hz2 hz3 (by omega) rfl rfl HC7.out.row (some ⟨w7.heap.size, 0, none⟩) 1 1 [y.at A6 c6] rfl rfl (row_one HWX.out) (by have := HLC.out; have := HL.out; simp; omega) (by have := HB5.out.size; have := HB7.out.size; have := HBX.out.size; have := HB0.out; omega) ?_; intro v9 w9 hr9 hg9 hb9; have HR9 := Lib.hid hr9.out; have HG9 := Lib.hid hg9.out; clear hr9 hg9 hb9))
   have hlo : OwnR lyL 59 (w7.alloc (.cells #[.int .i64 y.id, .int .i64 y.ent, .int .i64 y.day, .int .i64 y.kind, .int .i64 y.of_, .string y.txt, .slice A6 y.n c6] 46)) B0 (.slice A6 y.n c6) Y := HO8.out.low (by have := HB5.out.size; have := HB6.out.size; have := HB0.out; omega)
   have HC9 : Hid (CopP w9 B0 v9 (Zs ++ [(y.at A6 c6, Y)])) := Lib.hid (HC7.out.snoc (p := (y.at A6 c6, Y)) HG9.out HR9.out ⟨HYL.out, HYO.out, hlo⟩)
   have HE9 : Hid ((Zs ++ [(y.at A6 c6, Y)]).map pe = (Xs.take (k + 1)).map pe) := Lib.hid (by rw [List.map_append, HE.out, HTK.out]; rfl)
   have HB9 : Hid (Below B0 w w9) := Lib.hid ((HB5.out.trans ((HB7.out.trans (HBX.out.mono HB7.out.size)).mono (by have := HB5.out.size; have := HB0.out; omega))).trans (grown_below0 HC7.out.row HG9.out (by have := HB5.out.size; have := HB7.out.size; have := HBX.out.size; have := HB0.out; omega)))
   clear hlo
   go_roundg (n - (k + 1))
   case measure => omega
   case rel => exact ⟨k + 1, _, by go_num, by omega, by omega, HC9, HE9, HB9⟩
  ·obtain rfl : k = n := by omega
   have hltz : ¬ (k : Int) < (k : Int) := by omega
   go_wp2_with fail
   go_ret
   have hE9 : Zs.map pe = Xs.map pe := by rw [HE.out, List.take_of_length_le (by rw [HN.out]; exact Nat.le_refl _)]
   exact ⟨by first | exact CopQ.mk HC.out hE9 | (rw [HB0.out]; exact CopQ.mk HC.out hE9), by first | exact HB.out | (rw [HB0.out]; exact HB.out)⟩
set_option maxRecDepth 100000 in
set_option maxHeartbeats 1600000 in
theorem jents_any {M : Nat → Prop} {B : Nat} (j : JD) (w : World) (hj : JK M B w j) (hn : j.n ≤ 100000) : Calls Tryz.prog 27 #[.pointer (some ⟨j.b, 0, none⟩)] w fun e w' => CopQ w.heap.size j.Es e w' ∧ Below w.heap.size w w' := by
 have hA : RowAt lyX w j.A (j.Xs.map (·.1)) := by
  obtain ⟨A', c', e1, hA, -⟩ := hj.row.reads
  injection e1 with e1 _ _
  rw [← e1] at hA
  exact hA
 have HCA := Lib.hid (copall_any j.A j.c j.Xs w hA hj.ets.now (fun p hp => hj.good.ln _ (List.mem_map_of_mem hp)) (by rw [hj.ln]; exact hn))
 rw [hj.ln] at HCA
 have HAL := Lib.hid (all_any j w hj)
 have hEs : j.Es = j.Xs.map pe := rfl
 rw [hEs]
 clear hj hA hEs
 go_enter Tryz.func27, Tryz.ntmps27
 go_wp2_with (first
  | (go_at_call 51; refine HAL.out.mono ?_; rintro e w3 ⟨rfl, rfl⟩)
  | (go_at_call 50; refine HCA.out.mono ?_; rintro e w4 ⟨⟨v, Zs, rfl, h1, h2⟩, hb⟩; have H1 := Lib.hid h1; have H2 := Lib.hid h2; have HB := Lib.hid hb; clear h1 h2 hb))
 go_ret
 exact ⟨CopQ.mk H1.out H2.out, HB.out⟩
open Go.RowKit
def eqB (a b : PE) : Bool := decide (a.id = b.id) && (decide (a.ent = b.ent) && (decide (a.day = b.day) && (decide (a.kind = b.kind) && (decide (a.of_ = b.of_) && (decide (a.txt = b.txt) && decide (a.ls = b.ls))))))
theorem eqB_iff {a b : PE} : eqB a b = true ↔ a = b := by
 unfold eqB
 simp only [Bool.and_eq_true, decide_eq_true_eq]
 constructor
 ·rintro ⟨h1, h2, h3, h4, h5, h6, h7⟩
  cases a; cases b
  simp only at h1 h2 h3 h4 h5 h6 h7
  subst h1 h2 h3 h4 h5 h6 h7
  rfl
 ·rintro rfl
  exact ⟨rfl, rfl, rfl, rfl, rfl, rfl, rfl⟩
theorem eqB_no {a b : PE} (h : a ≠ b) : eqB a b = false := by
 cases hb : eqB a b with
 | false => rfl
 | true => exact absurd (eqB_iff.1 hb) h
theorem bytes_eqL {a b : ByteArray} (h : a.toList = b.toList) : a = b := by
 rw [ByteArray.toList_eq, ByteArray.toList_eq] at h
 cases a; cases b; congr; exact Array.toList_inj.1 h
set_option maxRecDepth 100000 in
set_option maxHeartbeats 6400000 in
theorem r11eq_any (x y : Ety) (X Y : List Lnk) (w : World) (hx : EtyK w x X) (hy : EtyK w y Y) (hxn : x.n ≤ 1000) (hyn : y.n ≤ 1000) : Calls Tryz.prog 46 #[etyV x, etyV y] w fun e w' => e = .returned (.bool (eqB (pe (x, X)) (pe (y, Y)))) ∧ Below w.heap.size w w' := by
 have HSL := Lib.hid (fun W (h : LnkAt W x.A X) (h2 : LnkAt W y.A Y) => rsamel_any x.A y.A x.c y.c X Y W h h2 (by rw [hx.ln]; omega) (by rw [hy.ln]; omega))
 rw [hx.ln, hy.ln] at HSL
 obtain ⟨xs, hxs⟩ : ∃ xs, (etyC x).toArray = xs := ⟨_, rfl⟩
 have hxV : etyV x = .agg xs := by rw [etyV_is, hxs]
 obtain ⟨ys, hys⟩ : ∃ ys, (etyC y).toArray = ys := ⟨_, rfl⟩
 have hyV : etyV y = .agg ys := by rw [etyV_is, hys]
 rw [hxV, hyV]
 obtain ⟨s0, hs0⟩ : ∃ s0, w.heap.size = s0 := ⟨_, rfl⟩
 obtain ⟨w2, hw2⟩ : ∃ w2, (w.alloc (.cells xs 46)).alloc (.cells ys 46) = w2 := ⟨_, rfl⟩
 have HXB : Wh 46 w2 s0 (etyC x) := by rw [← hw2, ← hs0, ← hxs]; exact (Wh.new w _ _).up (below_alloc_new _)
 have HYB : Wh 46 w2 (s0 + 1) (etyC y) := by
  rw [← hw2, ← hs0, ← hys]
  have h9 := Wh.new (w.alloc (.cells xs 46)) 46 (etyC y)
  rw [World.size_alloc] at h9
  exact h9
 have HB2 : Hid (Below w.heap.size w w2) := Lib.hid (by rw [← hw2]; exact below_new (below_alloc_new _) _)
 have HS0 := Lib.hid hs0
 have HXK := Lib.hid (hx.hz.up HB2.out)
 have HYK := Lib.hid (hy.hz.up HB2.out)
 have p0 := HXB.at 0 _ rfl
 have q0 := HYB.at 0 _ rfl
 have p1 := HXB.at 1 _ rfl
 have q1 := HYB.at 1 _ rfl
 have p2 := HXB.at 2 _ rfl
 have q2 := HYB.at 2 _ rfl
 have p3 := HXB.at 3 _ rfl
 have q3 := HYB.at 3 _ rfl
 have p4 := HXB.at 4 _ rfl
 have q4 := HYB.at 4 _ rfl
 have p5 := HXB.at 5 _ rfl
 have q5 := HYB.at 5 _ rfl
 have p6 := HXB.at 6 _ rfl
 have q6 := HYB.at 6 _ rfl
 clear hx hy hxn hyn hxV hyV hxs hys HXB HYB
 by_cases h0 : x.id = y.id
 ·rw [h0] at p0
  by_cases h1 : x.ent = y.ent
  ·rw [h1] at p1
   by_cases h2 : x.day = y.day
   ·rw [h2] at p2
    by_cases h3 : x.kind = y.kind
    ·rw [h3] at p3
     by_cases h4 : x.of_ = y.of_
     ·rw [h4] at p4
      by_cases h5 : x.txt = y.txt
      ·rw [h5] at p5
       have hE : eqB (pe (x, X)) (pe (y, Y)) = decide (X = Y) := by
        unfold eqB pe
        simp [h0, h1, h2, h3, h4, h5]
       rw [hE]
       clear hE h0 h1 h2 h3 h4 h5
       go_enter Tryz.func46, Tryz.ntmps46
       go_wp2_with (go_at_call 86; refine (HSL.out _ HXK.out HYK.out).mono ?_; rintro e w3 ⟨rfl, hb⟩; have HB3 := Lib.hid (HB2.out.trans (hb.mono HB2.out.size)); clear hb)
       go_ret
       exact ⟨by first | rfl | simp, (by have h9 := HB3.out; first | exact h9 | (rw [← HS0.out]; exact h9))⟩
      ·rw [eqB_no (fun e => h5 (congrArg PE.txt e))]
       have hq : (x.txt.toList == y.txt.toList) = false := beq_eq_false_iff_ne.2 (fun e => h5 (bytes_eqL e))
       go_enter Tryz.func46, Tryz.ntmps46
       go_wp2_with fail
       go_ret
       exact ⟨by first | rfl | simp, (by have h9 := HB2.out; first | exact h9 | (rw [← HS0.out]; exact h9))⟩
     ·rw [eqB_no (fun e => h4 (congrArg PE.of_ e))]
      have hq : (x.of_ == y.of_) = false := by simp [h4]
      go_enter Tryz.func46, Tryz.ntmps46
      go_wp2_with fail
      go_ret
      exact ⟨by first | rfl | simp, (by have h9 := HB2.out; first | exact h9 | (rw [← HS0.out]; exact h9))⟩
    ·rw [eqB_no (fun e => h3 (congrArg PE.kind e))]
     have hq : (x.kind == y.kind) = false := by simp [h3]
     go_enter Tryz.func46, Tryz.ntmps46
     go_wp2_with fail
     go_ret
     exact ⟨by first | rfl | simp, (by have h9 := HB2.out; first | exact h9 | (rw [← HS0.out]; exact h9))⟩
   ·rw [eqB_no (fun e => h2 (congrArg PE.day e))]
    have hq : (x.day == y.day) = false := by simp [h2]
    go_enter Tryz.func46, Tryz.ntmps46
    go_wp2_with fail
    go_ret
    exact ⟨by first | rfl | simp, (by have h9 := HB2.out; first | exact h9 | (rw [← HS0.out]; exact h9))⟩
  ·rw [eqB_no (fun e => h1 (congrArg PE.ent e))]
   have hq : (x.ent == y.ent) = false := by simp [h1]
   go_enter Tryz.func46, Tryz.ntmps46
   go_wp2_with fail
   go_ret
   exact ⟨by first | rfl | simp, (by have h9 := HB2.out; first | exact h9 | (rw [← HS0.out]; exact h9))⟩
 ·rw [eqB_no (fun e => h0 (congrArg PE.id e))]
  have hq : (x.id == y.id) = false := by simp [h0]
  go_enter Tryz.func46, Tryz.ntmps46
  go_wp2_with fail
  go_ret
  exact ⟨by first | rfl | simp, (by have h9 := HB2.out; first | exact h9 | (rw [← HS0.out]; exact h9))⟩
instance pe_dec : DecidableEq PE := fun _ _ => decidable_of_iff _ eqB_iff
def smFt (b1 o1 b2 o2 n c d k : Nat) (XV YV : Value) : List (Nat × AK.Fact (Below0)) := [(17, AK.Fact.is (.slice (some ⟨b1, o1, none⟩) n c)), (18, AK.Fact.is (.int .i64 (k : Int))), (19, AK.Fact.is (.pointer (some ⟨b1, o1 + k * 7, none⟩))), (20, AK.Fact.is (XV)), (21, AK.Fact.is (.slice (some ⟨b2, o2, none⟩) n d)), (22, AK.Fact.is (.int .i64 (k : Int))), (23, AK.Fact.is (.pointer (some ⟨b2, o2 + k * 7, none⟩))), (24, AK.Fact.is (YV)), (25, AK.Fact.is (.bool true)), (26, AK.Fact.is (.bool false))]
def smFf (b1 o1 b2 o2 n c d k : Nat) (XV YV : Value) : List (Nat × AK.Fact (Below0)) := [(17, AK.Fact.is (.slice (some ⟨b1, o1, none⟩) n c)), (18, AK.Fact.is (.int .i64 (k : Int))), (19, AK.Fact.is (.pointer (some ⟨b1, o1 + k * 7, none⟩))), (20, AK.Fact.is (XV)), (21, AK.Fact.is (.slice (some ⟨b2, o2, none⟩) n d)), (22, AK.Fact.is (.int .i64 (k : Int))), (23, AK.Fact.is (.pointer (some ⟨b2, o2 + k * 7, none⟩))), (24, AK.Fact.is (YV)), (25, AK.Fact.is (.bool false)), (26, AK.Fact.is (.bool true))]
set_option maxRecDepth 100000 in
set_option maxHeartbeats 6400000 in
theorem r12same_any (A B : Option Addr) (c d : Nat) (Xs Ys : List Etl) (w : World) (hz : RowAt lyX w A (Xs.map (·.1))) (hzs : EtysK w Xs) (hzn : ∀ p ∈ Xs, p.2.length ≤ 1000) (hy : RowAt lyX w B (Ys.map (·.1))) (hys : EtysK w Ys) (hyn : ∀ p ∈ Ys, p.2.length ≤ 1000) (hl : Xs.length ≤ 100000) (hl2 : Ys.length ≤ 100000) :
  Calls Tryz.prog 18 #[.slice A Xs.length c, .slice B Ys.length d] w fun e w' => e = .returned (.bool (decide (Xs.map pe = Ys.map pe))) ∧ Below w.heap.size w w' := by
 have hB := Below.refl w.heap.size w
 obtain ⟨n, hn⟩ : ∃ n, Xs.length = n := ⟨_, rfl⟩
 obtain ⟨m, hm⟩ : ∃ m, Ys.length = m := ⟨_, rfl⟩
 rw [hn] at hl ⊢
 rw [hm] at hl2 ⊢
 have HXN := Lib.hid hn
 have HYN := Lib.hid hm
 have HB0 := Lib.hid hB
 by_cases hnm : n = m
 ·subst hnm
  have HZ := Lib.hid hz
  have HY := Lib.hid hy
  have HZS := Lib.hid hzs
  have HYS := Lib.hid hys
  have HZB := Lib.hid hzn
  have HYB := Lib.hid hyn
  obtain ⟨r, hr⟩ : ∃ r, decide (Xs.map pe = Ys.map pe) = r := ⟨_, rfl⟩
  rw [hr]
  have HR := Lib.hid hr
  clear hn hm hz hy hzs hys hzn hyn hB hr
  go_enter Tryz.func18, Tryz.ntmps18
  go_wp2_with fail
  go_loopg [5] n (fun kx s5 wr => ∃ k : Nat, s5 = .int .i64 k ∧ k ≤ n ∧ n - k ≤ kx ∧ Hid (∀ i, i < k → (Xs.map pe)[i]? = (Ys.map pe)[i]?) ∧ Hid (Below w.heap.size w wr))
  case atStart => exact ⟨0, rfl, by omega, by omega, Lib.hid (fun i h => absurd h (by omega)), HB0⟩
  case round =>
   obtain ⟨k, rfl, hk, hkx, HH, HBW⟩ := hrel
   by_cases hlt : k < n
   ·have hltz : (k : Int) < (n : Int) := by omega
    obtain ⟨p, hp⟩ : ∃ p, Xs[k]? = some p := ⟨_, List.getElem?_eq_getElem (by rw [HXN.out]; exact hlt)⟩
    obtain ⟨q, hq⟩ : ∃ q, Ys[k]? = some q := ⟨_, List.getElem?_eq_getElem (by rw [HYN.out]; exact hlt)⟩
    obtain ⟨x, X⟩ := p
    obtain ⟨y, Y⟩ := q
    have hpe : (Xs.map pe)[k]? = some (pe (x, X)) := by rw [List.getElem?_map, hp]; rfl
    have hqe : (Ys.map pe)[k]? = some (pe (y, Y)) := by rw [List.getElem?_map, hq]; rfl
    have hxk := HZS.out _ (List.mem_of_getElem? hp)
    have hyk := HYS.out _ (List.mem_of_getElem? hq)
    have hxn : x.n ≤ 1000 := by have h1 : X.length ≤ 1000 := HZB.out _ (List.mem_of_getElem? hp); have h2 : X.length = x.n := hxk.ln; omega
    have hyn : y.n ≤ 1000 := by have h1 : Y.length ≤ 1000 := HYB.out _ (List.mem_of_getElem? hq); have h2 : Y.length = y.n := hyk.ln; omega
    obtain ⟨b1, o1, hA, hbl1, hrg1⟩ := HZ.out.at (i := k) (a := x) (by rw [List.getElem?_map, hp]; rfl)
    obtain ⟨b2, o2, hA2, hbl2, hrg2⟩ := HY.out.at (i := k) (a := y) (by rw [List.getElem?_map, hq]; rfl)
    subst hA hA2
    obtain ⟨XV, hXV⟩ : ∃ XV, XV = etyV x := ⟨_, rfl⟩
    obtain ⟨YV, hYV⟩ : ∃ YV, YV = etyV y := ⟨_, rfl⟩
    have HLX : Hid (∀ W, Below wr.heap.size wr W → (Instr.loadAt 46 (.pointer (some ⟨b1, o1 + k * 7, none⟩))).run Tryz.prog W = .ok XV W) := Lib.hid (fun W hW => by rw [hXV]; exact run_loadAt_mid W b1 (o1 + k * 7) 46 (etyC x) _ (fun jj v hv => ((HBW.out.trans (hW.mono HBW.out.size)).cell (p := ⟨b1, o1 + k * 7 + jj, none⟩) hbl1).trans (hrg1 jj v hv)) Tryz.underlying46 rfl (by kernel_rfl))
    have HLY : Hid (∀ W, Below wr.heap.size wr W → (Instr.loadAt 46 (.pointer (some ⟨b2, o2 + k * 7, none⟩))).run Tryz.prog W = .ok YV W) := Lib.hid (fun W hW => by rw [hYV]; exact run_loadAt_mid W b2 (o2 + k * 7) 46 (etyC y) _ (fun jj v hv => ((HBW.out.trans (hW.mono HBW.out.size)).cell (p := ⟨b2, o2 + k * 7 + jj, none⟩) hbl2).trans (hrg2 jj v hv)) Tryz.underlying46 rfl (by kernel_rfl))
    have hQ := fun W (h : Below wr.heap.size wr W) => r11eq_any x y X Y W (hxk.up (HBW.out.trans (h.mono HBW.out.size))) (hyk.up (HBW.out.trans (h.mono HBW.out.size))) hxn hyn
    rw [← hXV, ← hYV] at hQ
    have hPQ : (pe (x, X) = pe (y, Y)) ↔ eqB (pe (x, X)) (pe (y, Y)) = true := eqB_iff.symm
    generalize eqB (pe (x, X)) (pe (y, Y)) = bb at *
    have HQ := Lib.hid hQ
    have HPQ := Lib.hid hPQ
    have HPE := Lib.hid hpe
    have HQE := Lib.hid hqe
    clear hpe hqe hp hq hxk hyk hxn hyn hbl1 hbl2 hrg1 hrg2 hXV hYV hQ hPQ HZ HY HZS HYS HZB HYB
    cases bb
    ·have hrf : r = false := by
      rw [← HR.out]
      refine decide_eq_false fun e => ?_
      have h9 := HPE.out
      rw [e, HQE.out] at h9
      injection h9 with h9
      have := HPQ.out.1 h9.symm
      cases this
     subst hrf
     clear HPQ
     go_wp2_with fail
     refine AK.region_facts (Rp := Below0) (Kp := Below0) (smFf b1 o1 b2 o2 n c d k XV YV) (fun _ _ W => Below wr.heap.size wr W) [[], [], [17, 18], [19], [], [], [21, 22], [23], [20, 24], [25]] [] [[]] [0, 0, 0, 0, 0, 0, 0, 0, 0, 0] [0, 0, 0, 0, 0, 0, 0, 0, 0, 0] [] (fun u => by simp only [smFf, AK.temps, List.map_cons, List.map_nil, fillL, List.setIfInBounds_toArray, List.set_cons_zero, List.set_cons_succ]; rfl) (by kernel_rfl) (by kernel_rfl) (fun _ _ h => h.size) (fun _ _ h => h) (fun _ _ _ _ hb h => h.trans (hb.mono h.size)) (dc_drew (Below.refl _ _)) ?_ ?_
     ·refine AK.sc (lim := 0) (lo := 0) rfl rfl rfl rfl ?_ ?_
      ·intro k_ u w_ hk_ hl_ hJ hF K hK
       clear hF
       go_simp
       exact hK.out _ _ (Below.refl _ _) (rfl) trivial
      refine AK.sc (lim := 0) (lo := 0) rfl rfl rfl rfl ?_ ?_
      ·intro k_ u w_ hk_ hl_ hJ hF K hK
       clear hF
       go_simp
       exact hK.out _ _ (Below.refl _ _) (rfl) trivial
      refine AK.sc (lim := 0) (lo := 0) rfl rfl rfl rfl ?_ ?_
      ·intro k_ u w_ hk_ hl_ hJ hF K hK
       have h17 : u 17 = .slice (some ⟨b1, o1, none⟩) n c := AK.facts_get hF 17 (by simp)
       have h18 : u 18 = .int .i64 (k : Int) := AK.facts_get hF 18 (by simp)
       clear hF
       simp only [h17, h18] at hK ⊢
       clear h17 h18
       go_simp
       exact hK.out _ _ (Below.refl _ _) (rfl) trivial
      refine AK.sc (lim := 0) (lo := 0) rfl rfl rfl rfl ?_ ?_
      ·intro k_ u w_ hk_ hl_ hJ hF K hK
       have h19 : u 19 = .pointer (some ⟨b1, o1 + k * 7, none⟩) := AK.facts_get hF 19 (by simp)
       clear hF
       simp only [h19] at hK ⊢
       clear h19
       refine wp_load_is 46 _ rfl (.pointer (some ⟨b1, o1 + k * 7, none⟩)) rfl XV (HLX.out _ hJ) ?_
       exact hK.out _ _ (Below.refl _ _) (rfl) trivial
      refine AK.sc (lim := 0) (lo := 0) rfl rfl rfl rfl ?_ ?_
      ·intro k_ u w_ hk_ hl_ hJ hF K hK
       clear hF
       go_simp
       exact hK.out _ _ (Below.refl _ _) (rfl) trivial
      refine AK.sc (lim := 0) (lo := 0) rfl rfl rfl rfl ?_ ?_
      ·intro k_ u w_ hk_ hl_ hJ hF K hK
       clear hF
       go_simp
       exact hK.out _ _ (Below.refl _ _) (rfl) trivial
      refine AK.sc (lim := 0) (lo := 0) rfl rfl rfl rfl ?_ ?_
      ·intro k_ u w_ hk_ hl_ hJ hF K hK
       have h21 : u 21 = .slice (some ⟨b2, o2, none⟩) n d := AK.facts_get hF 21 (by simp)
       have h22 : u 22 = .int .i64 (k : Int) := AK.facts_get hF 22 (by simp)
       clear hF
       simp only [h21, h22] at hK ⊢
       clear h21 h22
       go_simp
       exact hK.out _ _ (Below.refl _ _) (rfl) trivial
      refine AK.sc (lim := 0) (lo := 0) rfl rfl rfl rfl ?_ ?_
      ·intro k_ u w_ hk_ hl_ hJ hF K hK
       have h23 : u 23 = .pointer (some ⟨b2, o2 + k * 7, none⟩) := AK.facts_get hF 23 (by simp)
       clear hF
       simp only [h23] at hK ⊢
       clear h23
       refine wp_load_is 46 _ rfl (.pointer (some ⟨b2, o2 + k * 7, none⟩)) rfl YV (HLY.out _ hJ) ?_
       exact hK.out _ _ (Below.refl _ _) (rfl) trivial
      refine AK.sc (lim := 0) (lo := 0) rfl rfl rfl rfl ?_ ?_
      ·intro k_ u w_ hk_ hl_ hJ hF K hK
       have h20 : u 20 = XV := AK.facts_get hF 20 (by simp)
       have h24 : u 24 = YV := AK.facts_get hF 24 (by simp)
       clear hF
       simp only [h20, h24] at hK ⊢
       clear h20 h24
       go_simp
       refine (HQ.out _ hJ).mono ?_
       rintro e w3 ⟨rfl, hb⟩
       exact hK.out _ _ hb (rfl) trivial
      refine AK.sc (lim := 0) (lo := 0) rfl rfl rfl rfl ?_ ?_
      ·intro k_ u w_ hk_ hl_ hJ hF K hK
       have h25 : u 25 = .bool false := AK.facts_get hF 25 (by simp)
       clear hF
       simp only [h25] at hK ⊢
       clear h25
       go_simp
       exact hK.out _ _ (Below.refl _ _) (rfl) trivial
      exact AK.StepsOk.nil
     ·intro u W9 hJ9 hF
      have h26 : u 26 = .bool true := AK.facts_get hF 26 (by simp [smFf, AK.temps])
      clear hF
      simp only [h26]
      clear h26
      go_wp2_with fail
      go_ret
      exact ⟨by first | rfl | simp, HBW.out.trans (hJ9.mono HBW.out.size)⟩
    ·have HH2 : Hid (∀ i, i < k + 1 → (Xs.map pe)[i]? = (Ys.map pe)[i]?) := Lib.hid (fun i hi => by
      rcases Nat.lt_or_ge i k with h | h
      ·exact HH.out i h
      ·obtain rfl : i = k := by omega
       rw [HPE.out, HQE.out, HPQ.out.2 rfl])
     clear HPQ
     go_wp2_with fail
     refine AK.region_facts (Rp := Below0) (Kp := Below0) (smFt b1 o1 b2 o2 n c d k XV YV) (fun _ _ W => Below wr.heap.size wr W) [[], [], [17, 18], [19], [], [], [21, 22], [23], [20, 24], [25]] [] [[]] [0, 0, 0, 0, 0, 0, 0, 0, 0, 0] [0, 0, 0, 0, 0, 0, 0, 0, 0, 0] [] (fun u => by simp only [smFt, AK.temps, List.map_cons, List.map_nil, fillL, List.setIfInBounds_toArray, List.set_cons_zero, List.set_cons_succ]; rfl) (by kernel_rfl) (by kernel_rfl) (fun _ _ h => h.size) (fun _ _ h => h) (fun _ _ _ _ hb h => h.trans (hb.mono h.size)) (dc_drew (Below.refl _ _)) ?_ ?_
     ·refine AK.sc (lim := 0) (lo := 0) rfl rfl rfl rfl ?_ ?_
      ·intro k_ u w_ hk_ hl_ hJ hF K hK
       clear hF
       go_simp
       exact hK.out _ _ (Below.refl _ _) (rfl) trivial
      refine AK.sc (lim := 0) (lo := 0) rfl rfl rfl rfl ?_ ?_
      ·intro k_ u w_ hk_ hl_ hJ hF K hK
       clear hF
       go_simp
       exact hK.out _ _ (Below.refl _ _) (rfl) trivial
      refine AK.sc (lim := 0) (lo := 0) rfl rfl rfl rfl ?_ ?_
      ·intro k_ u w_ hk_ hl_ hJ hF K hK
       have h17 : u 17 = .slice (some ⟨b1, o1, none⟩) n c := AK.facts_get hF 17 (by simp)
       have h18 : u 18 = .int .i64 (k : Int) := AK.facts_get hF 18 (by simp)
       clear hF
       simp only [h17, h18] at hK ⊢
       clear h17 h18
       go_simp
       exact hK.out _ _ (Below.refl _ _) (rfl) trivial
      refine AK.sc (lim := 0) (lo := 0) rfl rfl rfl rfl ?_ ?_
      ·intro k_ u w_ hk_ hl_ hJ hF K hK
       have h19 : u 19 = .pointer (some ⟨b1, o1 + k * 7, none⟩) := AK.facts_get hF 19 (by simp)
       clear hF
       simp only [h19] at hK ⊢
       clear h19
       refine wp_load_is 46 _ rfl (.pointer (some ⟨b1, o1 + k * 7, none⟩)) rfl XV (HLX.out _ hJ) ?_
       exact hK.out _ _ (Below.refl _ _) (rfl) trivial
      refine AK.sc (lim := 0) (lo := 0) rfl rfl rfl rfl ?_ ?_
      ·intro k_ u w_ hk_ hl_ hJ hF K hK
       clear hF
       go_simp
       exact hK.out _ _ (Below.refl _ _) (rfl) trivial
      refine AK.sc (lim := 0) (lo := 0) rfl rfl rfl rfl ?_ ?_
      ·intro k_ u w_ hk_ hl_ hJ hF K hK
       clear hF
       go_simp
       exact hK.out _ _ (Below.refl _ _) (rfl) trivial
      refine AK.sc (lim := 0) (lo := 0) rfl rfl rfl rfl ?_ ?_
      ·intro k_ u w_ hk_ hl_ hJ hF K hK
       have h21 : u 21 = .slice (some ⟨b2, o2, none⟩) n d := AK.facts_get hF 21 (by simp)
       have h22 : u 22 = .int .i64 (k : Int) := AK.facts_get hF 22 (by simp)
       clear hF
       simp only [h21, h22] at hK ⊢
       clear h21 h22
       go_simp
       exact hK.out _ _ (Below.refl _ _) (rfl) trivial
      refine AK.sc (lim := 0) (lo := 0) rfl rfl rfl rfl ?_ ?_
      ·intro k_ u w_ hk_ hl_ hJ hF K hK
       have h23 : u 23 = .pointer (some ⟨b2, o2 + k * 7, none⟩) := AK.facts_get hF 23 (by simp)
       clear hF
       simp only [h23] at hK ⊢
       clear h23
       refine wp_load_is 46 _ rfl (.pointer (some ⟨b2, o2 + k * 7, none⟩)) rfl YV (HLY.out _ hJ) ?_
       exact hK.out _ _ (Below.refl _ _) (rfl) trivial
      refine AK.sc (lim := 0) (lo := 0) rfl rfl rfl rfl ?_ ?_
      ·intro k_ u w_ hk_ hl_ hJ hF K hK
       have h20 : u 20 = XV := AK.facts_get hF 20 (by simp)
       have h24 : u 24 = YV := AK.facts_get hF 24 (by simp)
       clear hF
       simp only [h20, h24] at hK ⊢
       clear h20 h24
       go_simp
       refine (HQ.out _ hJ).mono ?_
       rintro e w3 ⟨rfl, hb⟩
       exact hK.out _ _ hb (rfl) trivial
      refine AK.sc (lim := 0) (lo := 0) rfl rfl rfl rfl ?_ ?_
      ·intro k_ u w_ hk_ hl_ hJ hF K hK
       have h25 : u 25 = .bool true := AK.facts_get hF 25 (by simp)
       clear hF
       simp only [h25] at hK ⊢
       clear h25
       go_simp
       exact hK.out _ _ (Below.refl _ _) (rfl) trivial
      exact AK.StepsOk.nil
     ·intro u W9 hJ9 hF
      have h26 : u 26 = .bool false := AK.facts_get hF 26 (by simp [smFt, AK.temps])
      clear hF
      have HB9 := Lib.hid (HBW.out.trans (hJ9.mono HBW.out.size))
      clear hJ9
      simp only [h26]
      clear h26
      go_wp2_with fail
      go_roundg (n - (k + 1))
      case measure => omega
      case rel => exact ⟨k + 1, by go_num, by omega, by omega, HH2, HB9⟩
   ·obtain rfl : k = n := by omega
    have hltz : ¬ (k : Int) < (k : Int) := by omega
    have hrt : r = true := by
     rw [← HR.out]
     refine decide_eq_true (List.ext_getElem? fun i => ?_)
     rcases Nat.lt_or_ge i k with h | h
     ·exact HH.out i h
     ·rw [List.getElem?_eq_none (by rw [List.length_map, HXN.out]; exact h), List.getElem?_eq_none (by rw [List.length_map, HYN.out]; exact h)]
    subst hrt
    go_wp2_with fail
    go_ret
    exact ⟨by first | rfl | simp, HBW.out⟩
 ·have hnz : ((n : Int) != (m : Int)) = true := by simp; omega
  have hno : decide (Xs.map pe = Ys.map pe) = false := decide_eq_false fun e => hnm (by have h := congrArg List.length e; rw [List.length_map, List.length_map] at h; omega)
  rw [hno]
  have hnn : ¬ (n : Int) = (m : Int) := by omega
  clear hno hz hy hzs hys hzn hyn hB hn hm
  go_enter Tryz.func18, Tryz.ntmps18
  go_wp2_with fail
  go_ret
  exact ⟨by first | rfl | simp, HB0.out⟩
def enP (Es : List PE) (v : Value) (W : World) : Prop := ∃ A c n Zs, v = .slice A n c ∧ Zs.length = n ∧ Zs.map pe = Es ∧ RowAt lyX W A (Zs.map (·.1)) ∧ EtysK W Zs
theorem enP.mk {Es : List PE} {v : Value} {W : World} {B : Nat} {Zs : List Etl} (h : CopP W B v Zs) (he : Zs.map pe = Es) : enP Es v W := by
 obtain ⟨A, c, e, hr, -⟩ := h.row.reads
 exact ⟨A, c, Zs.length, Zs, by rw [e, List.length_map], rfl, he, hr, h.etys⟩
theorem pe_fnd (Xs : List Etl) (id : Int) : pe (fndX Xs id) = (Xs.map pe).getD (idxP (Xs.map pe) id) (pe (ety0, [])) := by
 unfold fndX
 rw [List.getD_eq_getElem?_getD, List.getD_eq_getElem?_getD, List.getElem?_map]
 cases Xs[idxP (Xs.map pe) id]? <;> rfl
theorem fndB_es (Xs : List Etl) (id : Int) : fndB Xs id = decide (idxP (Xs.map pe) id < (Xs.map pe).length) := by
 unfold fndB
 rw [List.length_map]
def linB (l : Option Lnk) : Bool := l.isSome
theorem lineV_is (l : Option Lnk) : lineV l = .tuple #[lnkV (l.getD lnk0), .bool (linB l)] := by cases l <;> rfl
def smFa (bb off n c b7 k : Nat) (YV ZV : Value) : List (Nat × AK.Fact (Below0)) := [(27, AK.Fact.is (.bool true)), (28, AK.Fact.is (.int .i64 (k : Int))), (29, AK.Fact.is (.bool true)), (30, AK.Fact.is (.bool false)), (31, AK.Fact.is (.bool false)), (32, AK.Fact.is (.bool true)), (33, AK.Fact.is (.bool true)), (34, AK.Fact.is (YV)), (35, AK.Fact.is (.slice (some ⟨bb, off, none⟩) n c)), (36, AK.Fact.is (.int .i64 (k : Int))), (37, AK.Fact.is (.pointer (some ⟨bb, off + k * 7, none⟩))), (38, AK.Fact.is (ZV)), (39, AK.Fact.is (.bool true)), (40, AK.Fact.is (.bool false)), (41, AK.Fact.is (.bool false)), (42, AK.Fact.is (.bool false)), (43, AK.Fact.is (.bool false)), (44, AK.Fact.is (.bool true)), (45, AK.Fact.is (.bool false)), (46, AK.Fact.is (.bool false)), (47, AK.Fact.is (undef)), (48, AK.Fact.is (undef)), (49, AK.Fact.is (undef)), (50, AK.Fact.is (undef)), (51, AK.Fact.is (.bool false)), (52, AK.Fact.is (.bool false))]
def smFb (n c b7 : Nat) (A : Option Addr) (YV ZV : Value) : List (Nat × AK.Fact (Below0)) := [(27, AK.Fact.is (.bool false)), (28, AK.Fact.is (.int .i64 (-1))), (29, AK.Fact.is (.bool false)), (30, AK.Fact.is (.bool false)), (31, AK.Fact.is (.bool false)), (32, AK.Fact.is (.bool false)), (33, AK.Fact.is (.bool false)), (34, AK.Fact.is (undef)), (35, AK.Fact.is (undef)), (36, AK.Fact.is (undef)), (37, AK.Fact.is (undef)), (38, AK.Fact.is (undef)), (39, AK.Fact.is (undef)), (40, AK.Fact.is (undef)), (41, AK.Fact.is (.bool false)), (42, AK.Fact.is (.bool false)), (43, AK.Fact.is (.bool false)), (44, AK.Fact.is (.bool false)), (45, AK.Fact.is (.bool true)), (46, AK.Fact.is (.bool true)), (47, AK.Fact.is (YV)), (48, AK.Fact.is (ZV)), (49, AK.Fact.is (.bool true)), (50, AK.Fact.is (.bool false)), (51, AK.Fact.is (.bool false)), (52, AK.Fact.is (.bool false))]
set_option maxRecDepth 100000 in
set_option maxHeartbeats 25600000 in
theorem lsame_any {g : Grp} {L : List Acc} {G : List Ent} {Xs Os : List Etl} {w0 : World} {i jb : Nat} {j : JD} {M : Nat → Prop} (A : Option Addr) (c : Nat) (a b : Int) (w : World) (h : PS g L G Xs w0 i Os jb j M (.slice A Os.length c) w) (hos : EtysK w Os) (hon : ∀ p ∈ Os, p.1.n ≤ 1000) (hi : i ≤ 1000) (ha : (Lit.int .i64 a).wf = true) :
  Calls Tryz.prog 16 #[.pointer (some ⟨jb, 0, none⟩), .slice A Os.length c, .agg #[.int .i64 a, .int .i64 b]] w fun e w' => e = .returned (.bool true) ∧ Below w.heap.size w w' := by
 have hrow : RowAt lyX w A (Os.map (·.1)) := by
  obtain ⟨A8, c8, e8, hr8, -⟩ := h.ow.reads
  injection e8 with e8 _ _
  rw [e8]; exact hr8
 obtain ⟨n, hn⟩ : ∃ n, Os.length = n := ⟨_, rfl⟩
 have hni : n ≤ 1000 := by have := h.ln; omega
 have hjn : j.n = n := by
  have h1 := h.jk.len
  rw [h.es, List.length_map] at h1
  omega
 have hpe : pe (fndX j.Xs a) = pe (fndX Os a) := by
  have e : j.Xs.map pe = Os.map pe := h.es
  rw [pe_fnd, pe_fnd, e]
 have hfb : fndB j.Xs a = fndB Os a := by
  have e : j.Xs.map pe = Os.map pe := h.es
  rw [fndB_es, fndB_es, e]
 obtain ⟨s0, hs0⟩ : ∃ s0, w.heap.size = s0 := ⟨_, rfl⟩
 obtain ⟨w2, hw2⟩ : ∃ w2, w.alloc (.cells #[.int .i64 a, .int .i64 b] 32) = w2 := ⟨_, rfl⟩
 have HAB : Hid (Wh 32 w2 s0 [.int .i64 a, .int .i64 b]) := Lib.hid (by rw [← hw2, ← hs0]; exact Wh.new w _ _)
 have HB2 : Hid (Below w.heap.size w w2) := Lib.hid (by rw [← hw2]; exact below_alloc_new _)
 have HS0 := Lib.hid hs0
 have HJ := Lib.hid (h.jk.up HB2.out)
 have HRW := Lib.hid (hrow.up HB2.out)
 have HOS := Lib.hid (hos.up HB2.out)
 have HON := Lib.hid hon
 have HES := Lib.hid h.es
 have HNN := Lib.hid hn
 have HNI := Lib.hid hni
 have HJN := Lib.hid hjn
 have HJB := Lib.hid h.jb
 have HA := Lib.hid ha
 have HOL : Hid (∀ p ∈ Os, p.2.length ≤ 1000) := Lib.hid (fun p hp => by rw [(hos p hp).ln]; exact hon p hp)
 have HGT := Lib.hid (fun W (hb : Below w2.heap.size w2 W) => by have h9 := jget_any j a W (HJ.out.up hb) ha (by omega); rw [HJB.out, hfb] at h9; exact h9)
 have HRG := Lib.hid (fun W (hb : Below w2.heap.size w2 W) => by have h9 := r12get_any A c Os a W (HRW.out.up hb) (by omega); rw [hn] at h9; exact h9)
 have HLN := Lib.hid (fun W (hb : Below w2.heap.size w2 W) => by have h9 := jline_any j a b W (HJ.out.up hb) ha (by omega); rw [HJB.out, show (fndX j.Xs a).2 = (fndX Os a).2 from congrArg PE.ls hpe, lineV_is] at h9; exact h9)
 have HRL := Lib.hid (fun W (hb : Below w2.heap.size w2 W) => by have h9 := r12line_any A c Os a b W (HRW.out.up hb) (HOS.out.up hb) (by omega); rw [hn, lineV_is] at h9; exact h9)
 have HRV := Lib.hid (fun W (hb : Below w2.heap.size w2 W) => by have h9 := jrev_any j a W (HJ.out.up hb) ha; rw [HJB.out, HES.out] at h9; exact h9)
 have HRR0 := Lib.hid (fun W (hb : Below w2.heap.size w2 W) => by have h9 := r12rev_any A c Os a W (HRW.out.up hb) (by omega); rw [hn] at h9; exact h9)
 have HLE0 := Lib.hid (fun W (hb : Below w2.heap.size w2 W) => by have h9 := jlen_any j W (HJ.out.up hb); rw [HJB.out, hjn] at h9; exact h9)
 have HEN0 := Lib.hid (fun W (hb : Below w2.heap.size w2 W) => by have h9 := jents_any j W (HJ.out.up hb) (by omega); rw [HJB.out, HES.out] at h9; exact h9)
 have HSM0 : Hid (∀ A5 c5 n5 (Zs : List Etl) W, Below w2.heap.size w2 W → Zs.length = n5 → Zs.map pe = Os.map pe → RowAt lyX W A5 (Zs.map (·.1)) → EtysK W Zs → Calls Tryz.prog 18 #[.slice A5 n5 c5, .slice A n c] W fun e w' => e = .returned (.bool true) ∧ Below W.heap.size W w') := Lib.hid (fun A5 c5 n5 Zs W hb h1 h2 h3 h4 => by
  have hzl : Zs.length = Os.length := by have := congrArg List.length h2; simpa using this
  have hzn : ∀ p ∈ Zs, p.2.length ≤ 1000 := fun p hp => by
   have h5 : pe p ∈ Os.map pe := by rw [← h2]; exact List.mem_map_of_mem hp
   obtain ⟨q, hq, e⟩ := List.mem_map.1 h5
   rw [show p.2 = q.2 from (congrArg PE.ls e).symm]
   exact HOL.out q hq
  have h9 := r12same_any A5 A c5 c Zs Os W h3 h4 hzn (HRW.out.up hb) (HOS.out.up hb) HOL.out (by omega) (by omega)
  rw [decide_eq_true h2, h1, hn] at h9
  exact h9)
 have HRB0 : Hid ((revO (Os.map pe) a).isSome = decide (revP (Os.map pe) a ≠ 0)) := Lib.hid (by
  have h1 := revP_ne (by rw [← h.es]; exact h.jk.good) (Es := Os.map pe) a
  cases h2 : (revO (Os.map pe) a).isSome with
  | false => rw [h2] at h1; rw [decide_eq_false (fun h3 => by have := h1.1 h3; cases this)]
  | true => rw [decide_eq_true (h1.2 h2)])
 rw [hn]
 obtain ⟨lo, hlo⟩ : ∃ lo, lineP (fndX Os a).2 b = lo := ⟨_, rfl⟩
 obtain ⟨⟨l1, l2, l3⟩, hll⟩ : ∃ l, lo.getD lnk0 = l := ⟨_, rfl⟩
 obtain ⟨lb, hlb⟩ : ∃ lb, linB lo = lb := ⟨_, rfl⟩
 rw [hlo, hll, hlb] at HLN HRL
 obtain ⟨rv, hrv⟩ : ∃ rv, revP (Os.map pe) a = rv := ⟨_, rfl⟩
 obtain ⟨rb, hrb⟩ : ∃ rb, (revO (Os.map pe) a).isSome = rb := ⟨_, rfl⟩
 rw [hrv] at HRR0 HRB0
 rw [hrv, hrb] at HRV
 rw [hrb] at HRB0
 have HYN := Lib.hid (fndX_n HJ.out a)
 have HPE := Lib.hid hpe
 have hyes := fndX_yes (Xs := Os) (id := a)
 have hno := fndX_no (Xs := Os) (id := a)
 have hgp : getP (Os.map pe) a = if idxP (Os.map pe) a < n then (idxP (Os.map pe) a : Int) else -1 := by unfold getP; rw [List.length_map, hn]
 have hfd : fndB Os a = decide (idxP (Os.map pe) a < n) := by unfold fndB; rw [hn]
 rw [hgp] at HRG
 rw [hfd] at HGT hyes hno
 obtain ⟨Y0, hY0⟩ : ∃ Y0, fndX j.Xs a = Y0 := ⟨_, rfl⟩
 rw [hY0] at HGT HYN HPE
 obtain ⟨y0, Y⟩ := Y0
 have q0 := HAB.out.at 0 _ rfl
 clear h hrow hos hon hni hjn hpe hfb hlo hll hlb hrv hrb hgp hfd hY0 ha hi hn
 have HM1 : True := trivial
 have HM2 : True := trivial
 have HM3 : True := trivial
 by_cases hf : idxP (Os.map pe) a < n
 ·have hdf : decide (idxP (Os.map pe) a < n) = true := decide_eq_true hf
  rw [hdf] at HGT
  rw [if_pos hf] at HRG
  have hz := hyes hdf
  obtain ⟨k, hk⟩ : ∃ k, idxP (Os.map pe) a = k := ⟨_, rfl⟩
  rw [hk] at hz HRG hf
  obtain ⟨Z0, hZ0⟩ : ∃ Z0, fndX Os a = Z0 := ⟨_, rfl⟩
  rw [hZ0] at hz HPE
  obtain ⟨z, Z⟩ := Z0
  have hzm := List.mem_of_getElem? hz
  have hym : (Os.map (·.1))[k]? = some z := by rw [List.getElem?_map, hz]; rfl
  obtain ⟨bb, off, hA, hbl, hrg⟩ := HRW.out.at hym
  subst hA
  have HZK := Lib.hid (HOS.out _ hzm)
  have HZN : Hid (z.n ≤ 1000) := Lib.hid (HON.out _ hzm)
  have HKZ : Hid ((k : Int) < (n : Int)) := Lib.hid (by omega)
  obtain ⟨ZV, hZV⟩ : ∃ ZV, ZV = etyV z := ⟨_, rfl⟩
  have HZV := Lib.hid hZV
  have HLZ0 : Hid (∀ W, Below w2.heap.size w2 W → (Instr.loadAt 46 (.pointer (some ⟨bb, off + k * 7, none⟩))).run Tryz.prog W = .ok ZV W) := Lib.hid (fun W hW => by rw [hZV, etyV_is]; exact run_loadAt_mid W bb (off + k * 7) 46 (etyC z) _ (fun jj v hv => (hW.cell (p := ⟨bb, off + k * 7 + jj, none⟩) hbl).trans (hrg jj v hv)) Tryz.underlying46 rfl (by kernel_rfl))
  clear hyes hno hdf hz hk hZ0 hzm hym hbl hrg hf hZV
  go_enter Tryz.func16, Tryz.ntmps16
  go_upto_region 3 with (first
   | (go_at_call 45; refine (HGT.out _ (Below.refl _ _)).mono ?_; rintro e w3 ⟨⟨A1, c1, rfl, hk1⟩, hb⟩; have HK1 := Lib.hid hk1; have HB3 := Lib.hid hb; clear hk1 hb; obtain ⟨s3, hs3⟩ : ∃ s3, w3.heap.size = s3 := ⟨_, rfl⟩; have HS3 := Lib.hid hs3)
   | (clear HM1; refine wpList_store_wh rfl 46 _ _ rfl s3 rfl 46 [.int .i64 0, .int .i64 0, .int .i64 0, .int .i64 0, .int .i64 0, .string ⟨#[]⟩, .slice none 0 0] (etyC (y0.at A1 c1)) rfl (by rw [← HS3.out]; exact Wh.new w3 46 [.int .i64 0, .int .i64 0, .int .i64 0, .int .i64 0, .int .i64 0, .string ⟨#[]⟩, .slice none 0 0]) rfl (by kernel_rfl) (by kernel_rfl) ?_; intro w5 hr5 ho5 hz5; have hb5 : Below w3.heap.size w3 w5 := only_new (by rw [HS3.out]; exact ho5.out); have HR5 := Lib.hid hr5.out; have HB5 := Lib.hid (HB3.out.trans (hb5.mono HB3.out.size)); have HK5 := Lib.hid (HK1.out.up hb5); have q5 := (HAB.out.up HB5.out).at 0 _ rfl; clear hr5 ho5 hz5 hb5)
   | (go_at_call 21; refine (HRG.out _ HB5.out).mono ?_; rintro e w6 ⟨rfl, hW⟩; subst hW))
  obtain ⟨YV, hYV⟩ : ∃ YV, YV = etyV (y0.at A1 c1) := ⟨_, rfl⟩
  have HYV := Lib.hid hYV
  have HLY : Hid (∀ W, Below w5.heap.size w5 W → (Instr.loadAt 46 (.pointer (some ⟨s3, 0, none⟩))).run Tryz.prog W = .ok YV W) := Lib.hid (fun W h => by rw [hYV, etyV_is]; exact (HR5.out.up h).rg.load 0 46 (etyC (y0.at A1 c1)) rfl _ Tryz.underlying46 rfl (by kernel_rfl))
  clear hYV
  have HEQ : Hid (∀ W, Below w5.heap.size w5 W → Calls Tryz.prog 46 #[YV, ZV] W fun e w' => e = .returned (.bool true) ∧ Below W.heap.size W w') := Lib.hid (fun W hW => by
   have h9 := r11eq_any (y0.at A1 c1) z Y Z W (HK5.out.up hW) (HZK.out.up (HB5.out.trans (hW.mono HB5.out.size))) HYN.out.1 HZN.out
   rw [show eqB (pe (y0.at A1 c1, Y)) (pe (z, Z)) = true from eqB_iff.2 HPE.out, ← HYV.out, ← HZV.out] at h9
   exact h9)
  have HLZ : Hid (∀ W, Below w5.heap.size w5 W → (Instr.loadAt 46 (.pointer (some ⟨bb, off + k * 7, none⟩))).run Tryz.prog W = .ok ZV W) := Lib.hid (fun W hW => HLZ0.out W (HB5.out.trans (hW.mono HB5.out.size)))
  refine AK.region_facts (Rp := Below0) (Kp := Below0) (smFa bb off n c s3 k YV ZV) (fun _ _ W => Below w5.heap.size w5 W) [[], [], [28], [27, 29], [30], [31], [32, 31], [33], [33], [33], [35, 36, 33], [37, 33], [34, 38, 33], [39, 33], [33, 40, 31], [31, 41], [42], [43], [44, 43], [45, 43], [46], [46], [46], [46], [46, 50, 43], [43, 51]] [] [[]] [0, 0, 0, 0, 0, 0, 0, 0, 0, 0, 0, 0, 0, 0, 0, 0, 0, 0, 0, 0, 0, 0, 0, 0, 0, 0] [0, 0, 0, 0, 0, 0, 0, 0, 0, 0, 0, 0, 0, 0, 0, 0, 0, 0, 0, 0, 0, 0, 0, 0, 0, 0] [] (fun u => by simp only [smFa, AK.temps, List.map_cons, List.map_nil, fillL, List.setIfInBounds_toArray, List.set_cons_zero, List.set_cons_succ]; rfl) (by kernel_rfl) (by kernel_rfl) (fun _ _ h => h.size) (fun _ _ h => h) (fun _ _ _ _ hb h => h.trans (hb.mono h.size)) (dc_drew (Below.refl _ _)) ?_ ?_
  ·refine AK.sc (lim := 0) (lo := 0) rfl rfl rfl rfl ?_ ?_
   ·intro k_ u w_ hk_ hl_ hJ hF K hK
    clear hF
    go_simp
    exact hK.out _ _ (Below.refl _ _) (rfl) trivial
   refine AK.sc (lim := 0) (lo := 0) rfl rfl rfl rfl ?_ ?_
   ·intro k_ u w_ hk_ hl_ hJ hF K hK
    clear hF
    go_simp
    exact hK.out _ _ (Below.refl _ _) (rfl) trivial
   refine AK.sc (lim := 0) (lo := 0) rfl rfl rfl rfl ?_ ?_
   ·intro k_ u w_ hk_ hl_ hJ hF K hK
    have h28 : u 28 = .int .i64 (k : Int) := AK.facts_get hF 28 (by simp)
    clear hF
    simp only [h28] at hK ⊢
    clear h28
    go_simp
    exact hK.out _ _ (Below.refl _ _) (rfl) trivial
   refine AK.sc (lim := 0) (lo := 0) rfl rfl rfl rfl ?_ ?_
   ·intro k_ u w_ hk_ hl_ hJ hF K hK
    have h27 : u 27 = .bool true := AK.facts_get hF 27 (by simp)
    have h29 : u 29 = .bool true := AK.facts_get hF 29 (by simp)
    clear hF
    simp only [h27, h29] at hK ⊢
    clear h27 h29
    go_simp
    exact hK.out _ _ (Below.refl _ _) (rfl) trivial
   refine AK.sc (lim := 0) (lo := 0) rfl rfl rfl rfl ?_ ?_
   ·intro k_ u w_ hk_ hl_ hJ hF K hK
    have h30 : u 30 = .bool false := AK.facts_get hF 30 (by simp)
    clear hF
    simp only [h30] at hK ⊢
    clear h30
    go_simp
    exact hK.out _ _ (Below.refl _ _) (rfl) trivial
   refine AK.sc (lim := 0) (lo := 0) rfl rfl rfl rfl ?_ ?_
   ·intro k_ u w_ hk_ hl_ hJ hF K hK
    have h31 : u 31 = .bool false := AK.facts_get hF 31 (by simp)
    clear hF
    simp only [h31] at hK ⊢
    clear h31
    go_simp
    exact hK.out _ _ (Below.refl _ _) (rfl) trivial
   refine AK.sc (lim := 0) (lo := 0) rfl rfl rfl rfl ?_ ?_
   ·intro k_ u w_ hk_ hl_ hJ hF K hK
    have h32 : u 32 = .bool true := AK.facts_get hF 32 (by simp)
    have h31 : u 31 = .bool false := AK.facts_get hF 31 (by simp)
    clear hF
    simp only [h32, h31] at hK ⊢
    clear h32 h31
    go_simp
    exact hK.out _ _ (Below.refl _ _) (rfl) trivial
   refine AK.sc (lim := 0) (lo := 0) rfl rfl rfl rfl ?_ ?_
   ·intro k_ u w_ hk_ hl_ hJ hF K hK
    have h33 : u 33 = .bool true := AK.facts_get hF 33 (by simp)
    clear hF
    simp only [h33] at hK ⊢
    clear h33
    refine wp_load_is 46 _ rfl (.pointer (some ⟨s3, 0, none⟩)) rfl YV (HLY.out _ hJ) ?_
    exact hK.out _ _ (Below.refl _ _) rfl trivial
   refine AK.sc (lim := 0) (lo := 0) rfl rfl rfl rfl ?_ ?_
   ·intro k_ u w_ hk_ hl_ hJ hF K hK
    have h33 : u 33 = .bool true := AK.facts_get hF 33 (by simp)
    clear hF
    simp only [h33] at hK ⊢
    clear h33
    go_simp
    exact hK.out _ _ (Below.refl _ _) (rfl) trivial
   refine AK.sc (lim := 0) (lo := 0) rfl rfl rfl rfl ?_ ?_
   ·intro k_ u w_ hk_ hl_ hJ hF K hK
    have h33 : u 33 = .bool true := AK.facts_get hF 33 (by simp)
    clear hF
    simp only [h33] at hK ⊢
    clear h33
    go_simp
    exact hK.out _ _ (Below.refl _ _) (rfl) trivial
   refine AK.sc (lim := 0) (lo := 0) rfl rfl rfl rfl ?_ ?_
   ·intro k_ u w_ hk_ hl_ hJ hF K hK
    have h35 : u 35 = .slice (some ⟨bb, off, none⟩) n c := AK.facts_get hF 35 (by simp)
    have h36 : u 36 = .int .i64 (k : Int) := AK.facts_get hF 36 (by simp)
    have h33 : u 33 = .bool true := AK.facts_get hF 33 (by simp)
    clear hF
    simp only [h35, h36, h33] at hK ⊢
    clear h35 h36 h33
    have hz_ := HKZ.out
    go_simp
    exact hK.out _ _ (Below.refl _ _) (rfl) trivial
   refine AK.sc (lim := 0) (lo := 0) rfl rfl rfl rfl ?_ ?_
   ·intro k_ u w_ hk_ hl_ hJ hF K hK
    have h37 : u 37 = .pointer (some ⟨bb, off + k * 7, none⟩) := AK.facts_get hF 37 (by simp)
    have h33 : u 33 = .bool true := AK.facts_get hF 33 (by simp)
    clear hF
    simp only [h37, h33] at hK ⊢
    clear h37 h33
    refine wp_load_is 46 _ rfl (.pointer (some ⟨bb, off + k * 7, none⟩)) rfl ZV (HLZ.out _ hJ) ?_
    exact hK.out _ _ (Below.refl _ _) rfl trivial
   refine AK.sc (lim := 0) (lo := 0) rfl rfl rfl rfl ?_ ?_
   ·intro k_ u w_ hk_ hl_ hJ hF K hK
    have h34 : u 34 = YV := AK.facts_get hF 34 (by simp)
    have h38 : u 38 = ZV := AK.facts_get hF 38 (by simp)
    have h33 : u 33 = .bool true := AK.facts_get hF 33 (by simp)
    clear hF
    simp only [h34, h38, h33] at hK ⊢
    clear h34 h38 h33
    go_simp
    refine (HEQ.out _ hJ).mono ?_
    rintro r w6 ⟨rfl, hb6⟩
    exact hK.out _ _ hb6 rfl trivial
   refine AK.sc (lim := 0) (lo := 0) rfl rfl rfl rfl ?_ ?_
   ·intro k_ u w_ hk_ hl_ hJ hF K hK
    have h39 : u 39 = .bool true := AK.facts_get hF 39 (by simp)
    have h33 : u 33 = .bool true := AK.facts_get hF 33 (by simp)
    clear hF
    simp only [h39, h33] at hK ⊢
    clear h39 h33
    go_simp
    exact hK.out _ _ (Below.refl _ _) (rfl) trivial
   refine AK.sc (lim := 0) (lo := 0) rfl rfl rfl rfl ?_ ?_
   ·intro k_ u w_ hk_ hl_ hJ hF K hK
    have h33 : u 33 = .bool true := AK.facts_get hF 33 (by simp)
    have h40 : u 40 = .bool false := AK.facts_get hF 40 (by simp)
    have h31 : u 31 = .bool false := AK.facts_get hF 31 (by simp)
    clear hF
    simp only [h33, h40, h31] at hK ⊢
    clear h33 h40 h31
    go_simp
    exact hK.out _ _ (Below.refl _ _) (rfl) trivial
   refine AK.sc (lim := 0) (lo := 0) rfl rfl rfl rfl ?_ ?_
   ·intro k_ u w_ hk_ hl_ hJ hF K hK
    have h31 : u 31 = .bool false := AK.facts_get hF 31 (by simp)
    have h41 : u 41 = .bool false := AK.facts_get hF 41 (by simp)
    clear hF
    simp only [h31, h41] at hK ⊢
    clear h31 h41
    go_simp
    exact hK.out _ _ (Below.refl _ _) (rfl) trivial
   refine AK.sc (lim := 0) (lo := 0) rfl rfl rfl rfl ?_ ?_
   ·intro k_ u w_ hk_ hl_ hJ hF K hK
    have h42 : u 42 = .bool false := AK.facts_get hF 42 (by simp)
    clear hF
    simp only [h42] at hK ⊢
    clear h42
    go_simp
    exact hK.out _ _ (Below.refl _ _) (rfl) trivial
   refine AK.sc (lim := 0) (lo := 0) rfl rfl rfl rfl ?_ ?_
   ·intro k_ u w_ hk_ hl_ hJ hF K hK
    have h43 : u 43 = .bool false := AK.facts_get hF 43 (by simp)
    clear hF
    simp only [h43] at hK ⊢
    clear h43
    go_simp
    exact hK.out _ _ (Below.refl _ _) (rfl) trivial
   refine AK.sc (lim := 0) (lo := 0) rfl rfl rfl rfl ?_ ?_
   ·intro k_ u w_ hk_ hl_ hJ hF K hK
    have h44 : u 44 = .bool true := AK.facts_get hF 44 (by simp)
    have h43 : u 43 = .bool false := AK.facts_get hF 43 (by simp)
    clear hF
    simp only [h44, h43] at hK ⊢
    clear h44 h43
    go_simp
    exact hK.out _ _ (Below.refl _ _) (rfl) trivial
   refine AK.sc (lim := 0) (lo := 0) rfl rfl rfl rfl ?_ ?_
   ·intro k_ u w_ hk_ hl_ hJ hF K hK
    have h45 : u 45 = .bool false := AK.facts_get hF 45 (by simp)
    have h43 : u 43 = .bool false := AK.facts_get hF 43 (by simp)
    clear hF
    simp only [h45, h43] at hK ⊢
    clear h45 h43
    go_simp
    exact hK.out _ _ (Below.refl _ _) (rfl) trivial
   refine AK.sc (lim := 0) (lo := 0) rfl rfl rfl rfl ?_ ?_
   ·intro k_ u w_ hk_ hl_ hJ hF K hK
    have h46 : u 46 = .bool false := AK.facts_get hF 46 (by simp)
    clear hF
    simp only [h46] at hK ⊢
    clear h46
    go_simp
    exact hK.out _ _ (Below.refl _ _) (rfl) trivial
   refine AK.sc (lim := 0) (lo := 0) rfl rfl rfl rfl ?_ ?_
   ·intro k_ u w_ hk_ hl_ hJ hF K hK
    have h46 : u 46 = .bool false := AK.facts_get hF 46 (by simp)
    clear hF
    simp only [h46] at hK ⊢
    clear h46
    go_simp
    exact hK.out _ _ (Below.refl _ _) (rfl) trivial
   refine AK.sc (lim := 0) (lo := 0) rfl rfl rfl rfl ?_ ?_
   ·intro k_ u w_ hk_ hl_ hJ hF K hK
    have h46 : u 46 = .bool false := AK.facts_get hF 46 (by simp)
    clear hF
    simp only [h46] at hK ⊢
    clear h46
    go_simp
    exact hK.out _ _ (Below.refl _ _) (rfl) trivial
   refine AK.sc (lim := 0) (lo := 0) rfl rfl rfl rfl ?_ ?_
   ·intro k_ u w_ hk_ hl_ hJ hF K hK
    have h46 : u 46 = .bool false := AK.facts_get hF 46 (by simp)
    clear hF
    simp only [h46] at hK ⊢
    clear h46
    go_simp
    exact hK.out _ _ (Below.refl _ _) (rfl) trivial
   refine AK.sc (lim := 0) (lo := 0) rfl rfl rfl rfl ?_ ?_
   ·intro k_ u w_ hk_ hl_ hJ hF K hK
    have h46 : u 46 = .bool false := AK.facts_get hF 46 (by simp)
    have h50 : u 50 = undef := AK.facts_get hF 50 (by simp)
    have h43 : u 43 = .bool false := AK.facts_get hF 43 (by simp)
    clear hF
    simp only [h46, h50, h43] at hK ⊢
    clear h46 h50 h43
    go_simp
    exact hK.out _ _ (Below.refl _ _) (rfl) trivial
   refine AK.sc (lim := 0) (lo := 0) rfl rfl rfl rfl ?_ ?_
   ·intro k_ u w_ hk_ hl_ hJ hF K hK
    have h43 : u 43 = .bool false := AK.facts_get hF 43 (by simp)
    have h51 : u 51 = .bool false := AK.facts_get hF 51 (by simp)
    clear hF
    simp only [h43, h51] at hK ⊢
    clear h43 h51
    go_simp
    exact hK.out _ _ (Below.refl _ _) (rfl) trivial
   exact AK.StepsOk.nil
  ·intro u W9 hJ9 hF
   have h52 : u 52 = .bool false := AK.facts_get hF 52 (by simp [smFa, AK.temps])
   clear hF
   have HB9 := Lib.hid (HB5.out.trans (hJ9.mono HB5.out.size))
   simp only [h52]
   clear hJ9 h52
   have q6 := (HAB.out.up HB9.out).at 0 _ rfl
   have q7 := (HAB.out.up HB9.out).at 1 _ rfl
   have HMa : True := trivial
   have HMb : True := trivial
   go_upto_region 8 with (first
    | (go_at_call 47; refine (HLN.out _ HB9.out).mono ?_; rintro e w10 ⟨rfl, hb⟩; have HB10 := Lib.hid (HB9.out.trans (hb.mono HB9.out.size)); clear hb; obtain ⟨s10, hs10⟩ : ∃ s10, w10.heap.size = s10 := ⟨_, rfl⟩; have HS10 := Lib.hid hs10)
    | (clear HMa; refine wpList_store_wh rfl 59 _ _ rfl s10 rfl 59 [.int .i64 0, .int .i64 0, .int .i64 0] [.int .i64 l1, .int .i64 l2, .int .i64 l3] rfl (by rw [← HS10.out]; exact Wh.new w10 59 [.int .i64 0, .int .i64 0, .int .i64 0]) rfl (by kernel_rfl) (by kernel_rfl) ?_; intro w11 hr11 ho11 hz11; have hb11 : Below w10.heap.size w10 w11 := only_new (by rw [HS10.out]; exact ho11.out); have HR11 := Lib.hid hr11.out; have HB11 := Lib.hid (HB10.out.trans (hb11.mono HB10.out.size)); have q8 := (HAB.out.up HB11.out).at 0 _ rfl; have q9 := (HAB.out.up HB11.out).at 1 _ rfl; clear hr11 ho11 hz11 hb11)
    | (go_at_call 48; refine (HRL.out _ HB11.out).mono ?_; rintro e w12 ⟨rfl, hb⟩; have HB12 := Lib.hid (HB11.out.trans (hb.mono HB11.out.size)); have HR12 := Lib.hid (HR11.out.up hb); clear hb; obtain ⟨s12, hs12⟩ : ∃ s12, w12.heap.size = s12 := ⟨_, rfl⟩; have HS12 := Lib.hid hs12)
    | (clear HMb; refine wpList_store_wh rfl 59 _ _ rfl s12 rfl 59 [.int .i64 0, .int .i64 0, .int .i64 0] [.int .i64 l1, .int .i64 l2, .int .i64 l3] rfl (by rw [← HS12.out]; exact Wh.new w12 59 [.int .i64 0, .int .i64 0, .int .i64 0]) rfl (by kernel_rfl) (by kernel_rfl) ?_; intro w13 hr13 ho13 hz13; have hb13 : Below w12.heap.size w12 w13 := only_new (by rw [HS12.out]; exact ho13.out); have HR13 := Lib.hid hr13.out; have HR14 := Lib.hid (HR12.out.up hb13); have HB13 := Lib.hid (HB12.out.trans (hb13.mono HB12.out.size)); have qa := (HAB.out.up HB13.out).at 0 _ rfl; clear hr13 ho13 hz13 hb13)
    | (go_at_call 22; refine (HRV.out _ HB13.out).mono ?_; rintro e w14 ⟨rfl, hW⟩; subst hW))
   have HUP : Hid (∀ W, Below w13.heap.size w13 W → Below w2.heap.size w2 W) := Lib.hid (fun W h => HB13.out.trans (h.mono HB13.out.size))
   have HL10 : Hid (∀ W, Below w13.heap.size w13 W → (Instr.loadAt 59 (.pointer (some ⟨s10, 0, none⟩))).run Tryz.prog W = .ok (.agg #[.int .i64 l1, .int .i64 l2, .int .i64 l3]) W) := Lib.hid (fun W h => (HR14.out.up h).rg.load 0 59 [.int .i64 l1, .int .i64 l2, .int .i64 l3] rfl _ Tryz.underlying59 rfl (by kernel_rfl))
   have HL12 : Hid (∀ W, Below w13.heap.size w13 W → (Instr.loadAt 59 (.pointer (some ⟨s12, 0, none⟩))).run Tryz.prog W = .ok (.agg #[.int .i64 l1, .int .i64 l2, .int .i64 l3]) W) := Lib.hid (fun W h => (HR13.out.up h).rg.load 0 59 [.int .i64 l1, .int .i64 l2, .int .i64 l3] rfl _ Tryz.underlying59 rfl (by kernel_rfl))
   have HCA : Hid (∀ W, Below w13.heap.size w13 W → W.cell? ⟨s0, 0, none⟩ = some (.int .i64 a)) := Lib.hid (fun W h => (HAB.out.up (HUP.out W h)).at 0 _ rfl)
   have HRR := Lib.hid (fun W (h : Below w13.heap.size w13 W) => HRR0.out W (HUP.out W h))
   have HLE := Lib.hid (fun W (h : Below w13.heap.size w13 W) => HLE0.out W (HUP.out W h))
   have HEN := Lib.hid (fun W (h : Below w13.heap.size w13 W) => HEN0.out W (HUP.out W h))
   have HSM : Hid (∀ A5 c5 n5 (Zs : List Etl) W, Below w13.heap.size w13 W → Zs.length = n5 → Zs.map pe = Os.map pe → RowAt lyX W A5 (Zs.map (·.1)) → EtysK W Zs → Calls Tryz.prog 18 #[.slice A5 n5 c5, .slice (some ⟨bb, off, none⟩) n c] W fun e w' => e = .returned (.bool true) ∧ Below W.heap.size W w') := Lib.hid (fun A5 c5 n5 Zs W h => HSM0.out A5 c5 n5 Zs W (HUP.out W h))
   have HRB : Hid (Value.bool (decide (rv ≠ 0)) = Value.bool rb) := Lib.hid (by rw [HRB0.out])
   have hrbz : rb = (rv != 0) := by
    rw [HRB0.out]
    by_cases h0 : rv = 0
    ·simp [h0]
    ·simp [h0]
   subst hrbz
   have HMc : True := trivial
   have HMd : True := trivial
   go_wp2_with (first
    | (clear HMc; refine wpList_load_is rfl 59 _ rfl (.pointer (some ⟨s10, 0, none⟩)) rfl (.agg #[.int .i64 l1, .int .i64 l2, .int .i64 l3]) (HL10.out _ (Below.refl _ _)) ?_)
    | (clear HMd; refine wpList_load_is rfl 59 _ rfl (.pointer (some ⟨s12, 0, none⟩)) rfl (.agg #[.int .i64 l1, .int .i64 l2, .int .i64 l3]) (HL12.out _ (Below.refl _ _)) ?_)
    | (go_at_call 49; refine (HRR.out _ (Below.refl _ _)).mono ?_; rintro e w15 ⟨rfl, hW⟩; subst hW)
    | (go_at_call 42; refine (HLE.out _ (Below.refl _ _)).mono ?_; rintro e w16 ⟨rfl, hW⟩; subst hW)
    | (go_at_call 27; refine (HEN.out _ (Below.refl _ _)).mono ?_; rintro e w17 ⟨⟨v6, Zs0, rfl, hc6, he6⟩, hb⟩; obtain ⟨A5, c5, n5, Zs, rfl, z1, z2, z3, z4⟩ := enP.mk hc6 he6; have HZ1 := Lib.hid z1; have HZ2 := Lib.hid z2; have HZ3 := Lib.hid z3; have HZ4 := Lib.hid z4; have HB17 := Lib.hid hb; clear hc6 he6 z1 z2 z3 z4 hb)
    | (go_at_call 18; refine (HSM.out A5 c5 n5 Zs _ HB17.out HZ1.out HZ2.out HZ3.out HZ4.out).mono ?_; rintro e w18 ⟨rfl, hb⟩; have HB18 := Lib.hid (HB13.out.trans ((HB17.out.trans (hb.mono HB17.out.size)).mono HB13.out.size)); clear hb))
   go_ret
   exact ⟨by first | rfl | simp, by have h9 := HB2.out.trans (HB18.out.mono HB2.out.size); first | exact h9 | (rw [← HS0.out]; exact h9)⟩
 ·have hdf : decide (idxP (Os.map pe) a < n) = false := decide_eq_false hf
  rw [hdf] at HGT
  rw [if_neg hf] at HRG
  rw [hno hdf] at HPE
  obtain ⟨ZV, hZV⟩ : ∃ ZV, ZV = etyV ety0 := ⟨_, rfl⟩
  have HZV := Lib.hid hZV
  have HBZ : Hid (∀ W, (Instr.build 46 #[]).run Tryz.prog W = .ok ZV W) := Lib.hid (fun W => by rw [hZV]; exact run_build W 46 _ _ (by kernel_rfl))
  clear hyes hno hdf hf hZV
  go_enter Tryz.func16, Tryz.ntmps16
  go_upto_region 3 with (first
   | (go_at_call 45; refine (HGT.out _ (Below.refl _ _)).mono ?_; rintro e w3 ⟨⟨A1, c1, rfl, hk1⟩, hb⟩; have HK1 := Lib.hid hk1; have HB3 := Lib.hid hb; clear hk1 hb; obtain ⟨s3, hs3⟩ : ∃ s3, w3.heap.size = s3 := ⟨_, rfl⟩; have HS3 := Lib.hid hs3)
   | (clear HM1; refine wpList_store_wh rfl 46 _ _ rfl s3 rfl 46 [.int .i64 0, .int .i64 0, .int .i64 0, .int .i64 0, .int .i64 0, .string ⟨#[]⟩, .slice none 0 0] (etyC (y0.at A1 c1)) rfl (by rw [← HS3.out]; exact Wh.new w3 46 [.int .i64 0, .int .i64 0, .int .i64 0, .int .i64 0, .int .i64 0, .string ⟨#[]⟩, .slice none 0 0]) rfl (by kernel_rfl) (by kernel_rfl) ?_; intro w5 hr5 ho5 hz5; have hb5 : Below w3.heap.size w3 w5 := only_new (by rw [HS3.out]; exact ho5.out); have HR5 := Lib.hid hr5.out; have HB5 := Lib.hid (HB3.out.trans (hb5.mono HB3.out.size)); have HK5 := Lib.hid (HK1.out.up hb5); have q5 := (HAB.out.up HB5.out).at 0 _ rfl; clear hr5 ho5 hz5 hb5)
   | (go_at_call 21; refine (HRG.out _ HB5.out).mono ?_; rintro e w6 ⟨rfl, hW⟩; subst hW))
  obtain ⟨YV, hYV⟩ : ∃ YV, YV = etyV (y0.at A1 c1) := ⟨_, rfl⟩
  have HYV := Lib.hid hYV
  have HLY : Hid (∀ W, Below w5.heap.size w5 W → (Instr.loadAt 46 (.pointer (some ⟨s3, 0, none⟩))).run Tryz.prog W = .ok YV W) := Lib.hid (fun W h => by rw [hYV, etyV_is]; exact (HR5.out.up h).rg.load 0 46 (etyC (y0.at A1 c1)) rfl _ Tryz.underlying46 rfl (by kernel_rfl))
  clear hYV
  have HEQ : Hid (∀ W, Below w5.heap.size w5 W → Calls Tryz.prog 46 #[YV, ZV] W fun e w' => e = .returned (.bool true) ∧ Below W.heap.size W w') := Lib.hid (fun W hW => by
   have h9 := r11eq_any (y0.at A1 c1) ety0 Y [] W (HK5.out.up hW) (ety0_k W) HYN.out.1 (Nat.zero_le _)
   rw [show eqB (pe (y0.at A1 c1, Y)) (pe (ety0, [])) = true from eqB_iff.2 HPE.out, ← HYV.out, ← HZV.out] at h9
   exact h9)
  refine AK.region_facts (Rp := Below0) (Kp := Below0) (smFb n c s3 A YV ZV) (fun _ _ W => Below w5.heap.size w5 W) [[], [], [28], [27, 29], [30], [31], [32, 31], [33], [33], [33], [33], [33], [33], [33], [33, 40, 31], [31, 41], [42], [43], [44, 43], [45, 43], [46], [46], [47, 48, 46], [49, 46], [46, 50, 43], [43, 51]] [] [[]] [0, 0, 0, 0, 0, 0, 0, 0, 0, 0, 0, 0, 0, 0, 0, 0, 0, 0, 0, 0, 0, 0, 0, 0, 0, 0] [0, 0, 0, 0, 0, 0, 0, 0, 0, 0, 0, 0, 0, 0, 0, 0, 0, 0, 0, 0, 0, 0, 0, 0, 0, 0] [] (fun u => by simp only [smFb, AK.temps, List.map_cons, List.map_nil, fillL, List.setIfInBounds_toArray, List.set_cons_zero, List.set_cons_succ]; rfl) (by kernel_rfl) (by kernel_rfl) (fun _ _ h => h.size) (fun _ _ h => h) (fun _ _ _ _ hb h => h.trans (hb.mono h.size)) (dc_drew (Below.refl _ _)) ?_ ?_
  ·refine AK.sc (lim := 0) (lo := 0) rfl rfl rfl rfl ?_ ?_
   ·intro k_ u w_ hk_ hl_ hJ hF K hK
    clear hF
    go_simp
    exact hK.out _ _ (Below.refl _ _) (rfl) trivial
   refine AK.sc (lim := 0) (lo := 0) rfl rfl rfl rfl ?_ ?_
   ·intro k_ u w_ hk_ hl_ hJ hF K hK
    clear hF
    go_simp
    exact hK.out _ _ (Below.refl _ _) (rfl) trivial
   refine AK.sc (lim := 0) (lo := 0) rfl rfl rfl rfl ?_ ?_
   ·intro k_ u w_ hk_ hl_ hJ hF K hK
    have h28 : u 28 = .int .i64 (-1) := AK.facts_get hF 28 (by simp)
    clear hF
    simp only [h28] at hK ⊢
    clear h28
    go_simp
    exact hK.out _ _ (Below.refl _ _) (rfl) trivial
   refine AK.sc (lim := 0) (lo := 0) rfl rfl rfl rfl ?_ ?_
   ·intro k_ u w_ hk_ hl_ hJ hF K hK
    have h27 : u 27 = .bool false := AK.facts_get hF 27 (by simp)
    have h29 : u 29 = .bool false := AK.facts_get hF 29 (by simp)
    clear hF
    simp only [h27, h29] at hK ⊢
    clear h27 h29
    go_simp
    exact hK.out _ _ (Below.refl _ _) (rfl) trivial
   refine AK.sc (lim := 0) (lo := 0) rfl rfl rfl rfl ?_ ?_
   ·intro k_ u w_ hk_ hl_ hJ hF K hK
    have h30 : u 30 = .bool false := AK.facts_get hF 30 (by simp)
    clear hF
    simp only [h30] at hK ⊢
    clear h30
    go_simp
    exact hK.out _ _ (Below.refl _ _) (rfl) trivial
   refine AK.sc (lim := 0) (lo := 0) rfl rfl rfl rfl ?_ ?_
   ·intro k_ u w_ hk_ hl_ hJ hF K hK
    have h31 : u 31 = .bool false := AK.facts_get hF 31 (by simp)
    clear hF
    simp only [h31] at hK ⊢
    clear h31
    go_simp
    exact hK.out _ _ (Below.refl _ _) (rfl) trivial
   refine AK.sc (lim := 0) (lo := 0) rfl rfl rfl rfl ?_ ?_
   ·intro k_ u w_ hk_ hl_ hJ hF K hK
    have h32 : u 32 = .bool false := AK.facts_get hF 32 (by simp)
    have h31 : u 31 = .bool false := AK.facts_get hF 31 (by simp)
    clear hF
    simp only [h32, h31] at hK ⊢
    clear h32 h31
    go_simp
    exact hK.out _ _ (Below.refl _ _) (rfl) trivial
   refine AK.sc (lim := 0) (lo := 0) rfl rfl rfl rfl ?_ ?_
   ·intro k_ u w_ hk_ hl_ hJ hF K hK
    have h33 : u 33 = .bool false := AK.facts_get hF 33 (by simp)
    clear hF
    simp only [h33] at hK ⊢
    clear h33
    go_simp
    exact hK.out _ _ (Below.refl _ _) (rfl) trivial
   refine AK.sc (lim := 0) (lo := 0) rfl rfl rfl rfl ?_ ?_
   ·intro k_ u w_ hk_ hl_ hJ hF K hK
    have h33 : u 33 = .bool false := AK.facts_get hF 33 (by simp)
    clear hF
    simp only [h33] at hK ⊢
    clear h33
    go_simp
    exact hK.out _ _ (Below.refl _ _) (rfl) trivial
   refine AK.sc (lim := 0) (lo := 0) rfl rfl rfl rfl ?_ ?_
   ·intro k_ u w_ hk_ hl_ hJ hF K hK
    have h33 : u 33 = .bool false := AK.facts_get hF 33 (by simp)
    clear hF
    simp only [h33] at hK ⊢
    clear h33
    go_simp
    exact hK.out _ _ (Below.refl _ _) (rfl) trivial
   refine AK.sc (lim := 0) (lo := 0) rfl rfl rfl rfl ?_ ?_
   ·intro k_ u w_ hk_ hl_ hJ hF K hK
    have h33 : u 33 = .bool false := AK.facts_get hF 33 (by simp)
    clear hF
    simp only [h33] at hK ⊢
    clear h33
    go_simp
    exact hK.out _ _ (Below.refl _ _) (rfl) trivial
   refine AK.sc (lim := 0) (lo := 0) rfl rfl rfl rfl ?_ ?_
   ·intro k_ u w_ hk_ hl_ hJ hF K hK
    have h33 : u 33 = .bool false := AK.facts_get hF 33 (by simp)
    clear hF
    simp only [h33] at hK ⊢
    clear h33
    go_simp
    exact hK.out _ _ (Below.refl _ _) (rfl) trivial
   refine AK.sc (lim := 0) (lo := 0) rfl rfl rfl rfl ?_ ?_
   ·intro k_ u w_ hk_ hl_ hJ hF K hK
    have h33 : u 33 = .bool false := AK.facts_get hF 33 (by simp)
    clear hF
    simp only [h33] at hK ⊢
    clear h33
    go_simp
    exact hK.out _ _ (Below.refl _ _) (rfl) trivial
   refine AK.sc (lim := 0) (lo := 0) rfl rfl rfl rfl ?_ ?_
   ·intro k_ u w_ hk_ hl_ hJ hF K hK
    have h33 : u 33 = .bool false := AK.facts_get hF 33 (by simp)
    clear hF
    simp only [h33] at hK ⊢
    clear h33
    go_simp
    exact hK.out _ _ (Below.refl _ _) (rfl) trivial
   refine AK.sc (lim := 0) (lo := 0) rfl rfl rfl rfl ?_ ?_
   ·intro k_ u w_ hk_ hl_ hJ hF K hK
    have h33 : u 33 = .bool false := AK.facts_get hF 33 (by simp)
    have h40 : u 40 = undef := AK.facts_get hF 40 (by simp)
    have h31 : u 31 = .bool false := AK.facts_get hF 31 (by simp)
    clear hF
    simp only [h33, h40, h31] at hK ⊢
    clear h33 h40 h31
    go_simp
    exact hK.out _ _ (Below.refl _ _) (rfl) trivial
   refine AK.sc (lim := 0) (lo := 0) rfl rfl rfl rfl ?_ ?_
   ·intro k_ u w_ hk_ hl_ hJ hF K hK
    have h31 : u 31 = .bool false := AK.facts_get hF 31 (by simp)
    have h41 : u 41 = .bool false := AK.facts_get hF 41 (by simp)
    clear hF
    simp only [h31, h41] at hK ⊢
    clear h31 h41
    go_simp
    exact hK.out _ _ (Below.refl _ _) (rfl) trivial
   refine AK.sc (lim := 0) (lo := 0) rfl rfl rfl rfl ?_ ?_
   ·intro k_ u w_ hk_ hl_ hJ hF K hK
    have h42 : u 42 = .bool false := AK.facts_get hF 42 (by simp)
    clear hF
    simp only [h42] at hK ⊢
    clear h42
    go_simp
    exact hK.out _ _ (Below.refl _ _) (rfl) trivial
   refine AK.sc (lim := 0) (lo := 0) rfl rfl rfl rfl ?_ ?_
   ·intro k_ u w_ hk_ hl_ hJ hF K hK
    have h43 : u 43 = .bool false := AK.facts_get hF 43 (by simp)
    clear hF
    simp only [h43] at hK ⊢
    clear h43
    go_simp
    exact hK.out _ _ (Below.refl _ _) (rfl) trivial
   refine AK.sc (lim := 0) (lo := 0) rfl rfl rfl rfl ?_ ?_
   ·intro k_ u w_ hk_ hl_ hJ hF K hK
    have h44 : u 44 = .bool false := AK.facts_get hF 44 (by simp)
    have h43 : u 43 = .bool false := AK.facts_get hF 43 (by simp)
    clear hF
    simp only [h44, h43] at hK ⊢
    clear h44 h43
    go_simp
    exact hK.out _ _ (Below.refl _ _) (rfl) trivial
   refine AK.sc (lim := 0) (lo := 0) rfl rfl rfl rfl ?_ ?_
   ·intro k_ u w_ hk_ hl_ hJ hF K hK
    have h45 : u 45 = .bool true := AK.facts_get hF 45 (by simp)
    have h43 : u 43 = .bool false := AK.facts_get hF 43 (by simp)
    clear hF
    simp only [h45, h43] at hK ⊢
    clear h45 h43
    go_simp
    exact hK.out _ _ (Below.refl _ _) (rfl) trivial
   refine AK.sc (lim := 0) (lo := 0) rfl rfl rfl rfl ?_ ?_
   ·intro k_ u w_ hk_ hl_ hJ hF K hK
    have h46 : u 46 = .bool true := AK.facts_get hF 46 (by simp)
    clear hF
    simp only [h46] at hK ⊢
    clear h46
    refine wp_load_is 46 _ rfl (.pointer (some ⟨s3, 0, none⟩)) rfl YV (HLY.out _ hJ) ?_
    exact hK.out _ _ (Below.refl _ _) rfl trivial
   refine AK.sc (lim := 0) (lo := 0) rfl rfl rfl rfl ?_ ?_
   ·intro k_ u w_ hk_ hl_ hJ hF K hK
    have h46 : u 46 = .bool true := AK.facts_get hF 46 (by simp)
    clear hF
    simp only [h46] at hK ⊢
    clear h46
    refine wp_build_is 46 _ rfl [] rfl ZV (HBZ.out _) ?_
    exact hK.out _ _ (Below.refl _ _) rfl trivial
   refine AK.sc (lim := 0) (lo := 0) rfl rfl rfl rfl ?_ ?_
   ·intro k_ u w_ hk_ hl_ hJ hF K hK
    have h47 : u 47 = YV := AK.facts_get hF 47 (by simp)
    have h48 : u 48 = ZV := AK.facts_get hF 48 (by simp)
    have h46 : u 46 = .bool true := AK.facts_get hF 46 (by simp)
    clear hF
    simp only [h47, h48, h46] at hK ⊢
    clear h47 h48 h46
    go_simp
    refine (HEQ.out _ hJ).mono ?_
    rintro r w6 ⟨rfl, hb6⟩
    exact hK.out _ _ hb6 rfl trivial
   refine AK.sc (lim := 0) (lo := 0) rfl rfl rfl rfl ?_ ?_
   ·intro k_ u w_ hk_ hl_ hJ hF K hK
    have h49 : u 49 = .bool true := AK.facts_get hF 49 (by simp)
    have h46 : u 46 = .bool true := AK.facts_get hF 46 (by simp)
    clear hF
    simp only [h49, h46] at hK ⊢
    clear h49 h46
    go_simp
    exact hK.out _ _ (Below.refl _ _) (rfl) trivial
   refine AK.sc (lim := 0) (lo := 0) rfl rfl rfl rfl ?_ ?_
   ·intro k_ u w_ hk_ hl_ hJ hF K hK
    have h46 : u 46 = .bool true := AK.facts_get hF 46 (by simp)
    have h50 : u 50 = .bool false := AK.facts_get hF 50 (by simp)
    have h43 : u 43 = .bool false := AK.facts_get hF 43 (by simp)
    clear hF
    simp only [h46, h50, h43] at hK ⊢
    clear h46 h50 h43
    go_simp
    exact hK.out _ _ (Below.refl _ _) (rfl) trivial
   refine AK.sc (lim := 0) (lo := 0) rfl rfl rfl rfl ?_ ?_
   ·intro k_ u w_ hk_ hl_ hJ hF K hK
    have h43 : u 43 = .bool false := AK.facts_get hF 43 (by simp)
    have h51 : u 51 = .bool false := AK.facts_get hF 51 (by simp)
    clear hF
    simp only [h43, h51] at hK ⊢
    clear h43 h51
    go_simp
    exact hK.out _ _ (Below.refl _ _) (rfl) trivial
   exact AK.StepsOk.nil
  ·intro u W9 hJ9 hF
   have h52 : u 52 = .bool false := AK.facts_get hF 52 (by simp [smFb, AK.temps])
   clear hF
   have HB9 := Lib.hid (HB5.out.trans (hJ9.mono HB5.out.size))
   simp only [h52]
   clear hJ9 h52
   have q6 := (HAB.out.up HB9.out).at 0 _ rfl
   have q7 := (HAB.out.up HB9.out).at 1 _ rfl
   have HMa : True := trivial
   have HMb : True := trivial
   go_upto_region 8 with (first
    | (go_at_call 47; refine (HLN.out _ HB9.out).mono ?_; rintro e w10 ⟨rfl, hb⟩; have HB10 := Lib.hid (HB9.out.trans (hb.mono HB9.out.size)); clear hb; obtain ⟨s10, hs10⟩ : ∃ s10, w10.heap.size = s10 := ⟨_, rfl⟩; have HS10 := Lib.hid hs10)
    | (clear HMa; refine wpList_store_wh rfl 59 _ _ rfl s10 rfl 59 [.int .i64 0, .int .i64 0, .int .i64 0] [.int .i64 l1, .int .i64 l2, .int .i64 l3] rfl (by rw [← HS10.out]; exact Wh.new w10 59 [.int .i64 0, .int .i64 0, .int .i64 0]) rfl (by kernel_rfl) (by kernel_rfl) ?_; intro w11 hr11 ho11 hz11; have hb11 : Below w10.heap.size w10 w11 := only_new (by rw [HS10.out]; exact ho11.out); have HR11 := Lib.hid hr11.out; have HB11 := Lib.hid (HB10.out.trans (hb11.mono HB10.out.size)); have q8 := (HAB.out.up HB11.out).at 0 _ rfl; have q9 := (HAB.out.up HB11.out).at 1 _ rfl; clear hr11 ho11 hz11 hb11)
    | (go_at_call 48; refine (HRL.out _ HB11.out).mono ?_; rintro e w12 ⟨rfl, hb⟩; have HB12 := Lib.hid (HB11.out.trans (hb.mono HB11.out.size)); have HR12 := Lib.hid (HR11.out.up hb); clear hb; obtain ⟨s12, hs12⟩ : ∃ s12, w12.heap.size = s12 := ⟨_, rfl⟩; have HS12 := Lib.hid hs12)
    | (clear HMb; refine wpList_store_wh rfl 59 _ _ rfl s12 rfl 59 [.int .i64 0, .int .i64 0, .int .i64 0] [.int .i64 l1, .int .i64 l2, .int .i64 l3] rfl (by rw [← HS12.out]; exact Wh.new w12 59 [.int .i64 0, .int .i64 0, .int .i64 0]) rfl (by kernel_rfl) (by kernel_rfl) ?_; intro w13 hr13 ho13 hz13; have hb13 : Below w12.heap.size w12 w13 := only_new (by rw [HS12.out]; exact ho13.out); have HR13 := Lib.hid hr13.out; have HR14 := Lib.hid (HR12.out.up hb13); have HB13 := Lib.hid (HB12.out.trans (hb13.mono HB12.out.size)); have qa := (HAB.out.up HB13.out).at 0 _ rfl; clear hr13 ho13 hz13 hb13)
    | (go_at_call 22; refine (HRV.out _ HB13.out).mono ?_; rintro e w14 ⟨rfl, hW⟩; subst hW))
   have HUP : Hid (∀ W, Below w13.heap.size w13 W → Below w2.heap.size w2 W) := Lib.hid (fun W h => HB13.out.trans (h.mono HB13.out.size))
   have HL10 : Hid (∀ W, Below w13.heap.size w13 W → (Instr.loadAt 59 (.pointer (some ⟨s10, 0, none⟩))).run Tryz.prog W = .ok (.agg #[.int .i64 l1, .int .i64 l2, .int .i64 l3]) W) := Lib.hid (fun W h => (HR14.out.up h).rg.load 0 59 [.int .i64 l1, .int .i64 l2, .int .i64 l3] rfl _ Tryz.underlying59 rfl (by kernel_rfl))
   have HL12 : Hid (∀ W, Below w13.heap.size w13 W → (Instr.loadAt 59 (.pointer (some ⟨s12, 0, none⟩))).run Tryz.prog W = .ok (.agg #[.int .i64 l1, .int .i64 l2, .int .i64 l3]) W) := Lib.hid (fun W h => (HR13.out.up h).rg.load 0 59 [.int .i64 l1, .int .i64 l2, .int .i64 l3] rfl _ Tryz.underlying59 rfl (by kernel_rfl))
   have HCA : Hid (∀ W, Below w13.heap.size w13 W → W.cell? ⟨s0, 0, none⟩ = some (.int .i64 a)) := Lib.hid (fun W h => (HAB.out.up (HUP.out W h)).at 0 _ rfl)
   have HRR := Lib.hid (fun W (h : Below w13.heap.size w13 W) => HRR0.out W (HUP.out W h))
   have HLE := Lib.hid (fun W (h : Below w13.heap.size w13 W) => HLE0.out W (HUP.out W h))
   have HEN := Lib.hid (fun W (h : Below w13.heap.size w13 W) => HEN0.out W (HUP.out W h))
   have HSM : Hid (∀ A5 c5 n5 (Zs : List Etl) W, Below w13.heap.size w13 W → Zs.length = n5 → Zs.map pe = Os.map pe → RowAt lyX W A5 (Zs.map (·.1)) → EtysK W Zs → Calls Tryz.prog 18 #[.slice A5 n5 c5, .slice A n c] W fun e w' => e = .returned (.bool true) ∧ Below W.heap.size W w') := Lib.hid (fun A5 c5 n5 Zs W h => HSM0.out A5 c5 n5 Zs W (HUP.out W h))
   have HRB : Hid (Value.bool (decide (rv ≠ 0)) = Value.bool rb) := Lib.hid (by rw [HRB0.out])
   have hrbz : rb = (rv != 0) := by
    rw [HRB0.out]
    by_cases h0 : rv = 0
    ·simp [h0]
    ·simp [h0]
   subst hrbz
   have HMc : True := trivial
   have HMd : True := trivial
   go_wp2_with (first
    | (clear HMc; refine wpList_load_is rfl 59 _ rfl (.pointer (some ⟨s10, 0, none⟩)) rfl (.agg #[.int .i64 l1, .int .i64 l2, .int .i64 l3]) (HL10.out _ (Below.refl _ _)) ?_)
    | (clear HMd; refine wpList_load_is rfl 59 _ rfl (.pointer (some ⟨s12, 0, none⟩)) rfl (.agg #[.int .i64 l1, .int .i64 l2, .int .i64 l3]) (HL12.out _ (Below.refl _ _)) ?_)
    | (go_at_call 49; refine (HRR.out _ (Below.refl _ _)).mono ?_; rintro e w15 ⟨rfl, hW⟩; subst hW)
    | (go_at_call 42; refine (HLE.out _ (Below.refl _ _)).mono ?_; rintro e w16 ⟨rfl, hW⟩; subst hW)
    | (go_at_call 27; refine (HEN.out _ (Below.refl _ _)).mono ?_; rintro e w17 ⟨⟨v6, Zs0, rfl, hc6, he6⟩, hb⟩; obtain ⟨A5, c5, n5, Zs, rfl, z1, z2, z3, z4⟩ := enP.mk hc6 he6; have HZ1 := Lib.hid z1; have HZ2 := Lib.hid z2; have HZ3 := Lib.hid z3; have HZ4 := Lib.hid z4; have HB17 := Lib.hid hb; clear hc6 he6 z1 z2 z3 z4 hb)
    | (go_at_call 18; refine (HSM.out A5 c5 n5 Zs _ HB17.out HZ1.out HZ2.out HZ3.out HZ4.out).mono ?_; rintro e w18 ⟨rfl, hb⟩; have HB18 := Lib.hid (HB13.out.trans ((HB17.out.trans (hb.mono HB17.out.size)).mono HB13.out.size)); clear hb))
   go_ret
   exact ⟨by first | rfl | simp, by have h9 := HB2.out.trans (HB18.out.mono HB2.out.size); first | exact h9 | (rw [← HS0.out]; exact h9)⟩
theorem smp_sm (A : Option Addr) (c : Nat) (E : Option Addr) (p0 p1 p2 p3 : EAd) : Sm (smpG A c E) (smpEs p0 p1 p2 p3) := ⟨by show 26 ≤ 60; omega, by show 4 ≤ 14; omega, fun e he => by
 simp [smpEs] at he
 rcases he with rfl | rfl | rfl | rfl <;> exact ⟨by show 14 ≤ 60; omega, by show 14 ≤ 60; omega⟩⟩
theorem smp_w (A : Option Addr) (c : Nat) (E : Option Addr) (p0 p1 p2 p3 : EAd) : GrW (smpG A c E) smpL (smpEs p0 p1 p2 p3) := ⟨by show 3 ≤ maxLen; unfold maxLen; omega, (by
 have h : ((smpG A c E).R.all fun x => (Lit.int .i64 x).wf) = true := by kernel_rfl
 exact fun x hx => List.all_eq_true.1 h x hx), fun e he => by
 simp [smpEs] at he
 rcases he with rfl | rfl | rfl | rfl
 ·exact ⟨by show 6 ≤ maxLen; unfold maxLen; omega, by show 3 ≤ maxLen; unfold maxLen; omega⟩
 ·exact ⟨by show 5 ≤ maxLen; unfold maxLen; omega, by show 3 ≤ maxLen; unfold maxLen; omega⟩
 ·exact ⟨by show 4 ≤ maxLen; unfold maxLen; omega, by show 3 ≤ maxLen; unfold maxLen; omega⟩
 ·exact ⟨by show 5 ≤ maxLen; unfold maxLen; omega, by show 3 ≤ maxLen; unfold maxLen; omega⟩⟩
def ety1 : Ety := ⟨1, 0, 0, 0, 0, ⟨#[]⟩, none, 0, 0⟩
theorem ety1_k (w : World) : EtyK w ety1 [] := ⟨rfl, LnkAt.nil, fun l hl => by cases hl⟩
theorem ety1_chk (g : Grp) (L : List Acc) (G : List Ent) : chkN g ety1 [] L G = 1 := by
 have h1 : hdN g ety1 L G = 1 := by
  unfold hdN
  have h2 : orgB ety1.kind ety1.of_ = false := rfl
  rw [h2]
  simp
 unfold chkN fst6
 rw [h1]
 rfl
theorem ety1_build (w : World) : (Instr.build 46 #[(0, .int .i64 1)]).run Tryz.prog w = .ok (etyV ety1) w := run_build w 46 _ _ (by kernel_rfl)
theorem snew_any (A : Option Addr) (c : Nat) (E : Option Addr) (p0 p1 p2 p3 : EAd) (w : World) (hk : GrK w (smpG A c E) smpL (smpEs p0 p1 p2 p3)) : Calls Tryz.prog 41 #[grpV (smpG A c E)] w fun e w' => (∃ j M B, e = .returned (.tuple #[.pointer (some ⟨j.b, 0, none⟩), .int .i64 0]) ∧ JK M B w' j ∧ j.n = 0) ∧ Below w.heap.size w w' := by
 refine (new_any (smpG A c E) smpL (smpEs p0 p1 p2 p3) w hk (smp_sm A c E p0 p1 p2 p3) (smp_w A c E p0 p1 p2 p3)).mono ?_
 rintro e w' ⟨h, hb⟩
 unfold NewP at h
 rw [smp_ok, if_pos rfl] at h
 obtain ⟨j, M, h1, h2, h3, -, -⟩ := h
 exact ⟨⟨j, M, _, h1, h2, by rw [← h2.ln, h3]; rfl⟩, hb⟩
set_option maxRecDepth 100000 in
set_option maxHeartbeats 6400000 in
theorem jawake_any (w : World) : Calls Tryz.prog 13 #[] w fun e w' => e = .returned (.bool true) ∧ Below w.heap.size w w' := by
 have HN := Lib.hid snew_any
 have HP := Lib.hid (fun (M : Nat → Prop) (B : Nat) (j : JD) (W : World) (h : JK M B W j) => by have h9 := post1_any j ety1 [] W h (ety1_k W) (Nat.zero_le _) (by rw [ety1_chk]; decide); rw [ety1_chk] at h9; exact h9)
 go_enter Tryz.func13, Tryz.ntmps13
 go_upto_region 2 with (first
  | (go_at_call 40; refine (spgrp_any _).mono ?_; rintro e w3 ⟨⟨A, c, E, p0, p1, p2, p3, rfl, hk⟩, hb⟩; have HK3 := Lib.hid hk; have HB3 := Lib.hid hb; clear hk hb; obtain ⟨s3, hs3⟩ : ∃ s3, w3.heap.size = s3 := ⟨_, rfl⟩; have HS3 := Lib.hid hs3)
  | (refine wpList_store_wh rfl 29 _ _ rfl s3 rfl 29 [.string ⟨#[]⟩, .int .i64 0, .int .i64 0, .int .i64 0, .slice none 0 0, .int .i64 0, .int .i64 0, .int .i64 0, .int .i64 0, .int .i64 0, .int .i64 0, .int .i64 0, .int .i64 0, .int .i64 0, .int .i64 0, .int .i64 0, .int .i64 0, .int .i64 0, .int .i64 0, .int .i64 0, .slice none 0 0] (grpC (smpG A c E)) rfl (by rw [← HS3.out]; exact Wh.new w3 29 [.string ⟨#[]⟩, .int .i64 0, .int .i64 0, .int .i64 0, .slice none 0 0, .int .i64 0, .int .i64 0, .int .i64 0, .int .i64 0, .int .i64 0, .int .i64 0, .int .i64 0, .int .i64 0, .int .i64 0, .int .i64 0, .int .i64 0, .int .i64 0, .int .i64 0, .int .i64 0, .int .i64 0, .slice none 0 0]) rfl (by kernel_rfl) (by kernel_rfl) ?_; intro w5 hr5 ho5 hz5; have HG5 := Lib.hid hr5.out; have hb5 : Below w3.heap.size w3 w5 := only_new (by rw [HS3.out]; exact ho5.out); have HK5 := Lib.hid (HK3.out.up hb5); have HB5 := Lib.hid (HB3.out.trans (hb5.mono HB3.out.size)); clear hr5 ho5 hz5 hb5 hs3 HK3 HB3))
 have HLG : Hid ((Instr.loadAt 29 (.pointer (some ⟨s3, 0, none⟩))).run Tryz.prog w5 = .ok (grpV (smpG A c E)) w5) := Lib.hid (by rw [grpV_is]; exact HG5.out.rg.load 0 29 (grpC (smpG A c E)) rfl _ Tryz.underlying29 rfl (by kernel_rfl))
 obtain ⟨GV, hGV⟩ : ∃ GV, GV = grpV (smpG A c E) := ⟨_, rfl⟩
 rw [← hGV] at HLG
 have HGV := Lib.hid hGV
 clear hGV
 go_wp2_with (first
  | (refine wpList_load_is rfl 29 _ rfl (.pointer (some ⟨s3, 0, none⟩)) rfl GV HLG.out ?_)
  | (go_at_call 41; rw [HGV.out]; refine (HN.out A c E p0 p1 p2 p3 _ HK5.out).mono ?_; rintro e w6 ⟨⟨j, M, B, rfl, hj, hj0⟩, hb⟩; have HJ6 := Lib.hid hj; have hn0 : j.n = 0 := hj0; have HB6 := Lib.hid (HB5.out.trans (hb.mono HB5.out.size)); clear hj hb hj0)
  | (refine wpList_build_is rfl 46 _ rfl [(0, .int .i64 1)] rfl (etyV ety1) (ety1_build _) ?_)
  | (go_at_call 24; refine (HP.out M B j _ HJ6.out).mono ?_; rintro e w7 ⟨rfl, hb⟩; have HJ7 := Lib.hid (HJ6.out.up hb); have HB7 := Lib.hid (HB6.out.trans (hb.mono HB6.out.size)); clear hb HJ6 HB6)
  | (go_at_call 42; refine (jlen_any j _ HJ7.out).mono ?_; rintro e w8 ⟨rfl, rfl⟩; rw [hn0]))
 go_ret
 exact ⟨rfl, HB7.out⟩
end Go.Proofs.YthokdplikidhiaaGreat
