/- Contracts of the functions that the statements reach, part 11: what was proved of each, callees first. -/
import Derived.Shelf.SlGeneric
import Derived.Shelf.SlMaps.Clone
import Derived.Ground.SlmcProg
import Derived.Test.YtacmccijnkojeaaGreatProg
import Derived.Test.YtacmccijnkojeaaGreatJC10
namespace Go.Proofs.YtacmccijnkojeaaGreat
open Go.RowKit
structure PS (g : Grp) (L : List Acc) (G : List Ent) (Xs : List Etl) (w2 : World) (i : Nat) (Os : List Etl) (jb : Nat) (j : JD) (M : Nat → Prop) (v : Value) (W : World) : Prop where
 jk : JK M w2.heap.size W j
 jb : j.b = jb
 bd : BareD g L G j
 es : j.Es = Os.map pe
 mw : ∀ k, M k → w2.heap.size ≤ k ∧ k < W.heap.size
 ow : OwnR lyX 42 W w2.heap.size v (Os.map (·.1))
 dj : ∀ k, v.ownBlock = some k → ¬ M k
 low : Below w2.heap.size w2 W
 sub : ∀ p ∈ Os, p ∈ Xs
 ln : Os.length ≤ i
 im : Im (fun k => M k ∨ v.ownBlock = some k) (fun W => GrK W j.g j.L j.G ∧ EtysK W j.Xs) W
 ok : ∀ p ∈ Os, wr (sumT p.2) = 0 ∧ 0 ≤ p.1.ent ∧ p.1.ent < (g.m : Int)
theorem rchk_ok {g : Grp} {G : List Ent} {x : Ety} {X : List Lnk} {gp : Bool} (h : rchkN (shpB gp g x X) (acB (G.getD x.ent.toNat ent0).L X) (rtlN g x X) = 0) : wr (sumT X) = 0 ∧ 0 ≤ x.ent ∧ x.ent < (g.m : Int) := by
 unfold rchkN at h
 split at h
 ·rename_i h1
  have h2 := shpB_ent h1
  unfold entIn at h2
  simp only [Bool.and_eq_true, decide_eq_true_eq] at h2
  split at h
  ·unfold rtlN at h
   split at h
   ·split at h
    ·rename_i h3
     exact ⟨h3, h2.1, h2.2⟩
    ·cases h
   ·cases h
  ·cases h
 ·cases h
section
variable {g : Grp} {L : List Acc} {G : List Ent} {Xs Os : List Etl} {w2 W W' : World} {i jb : Nat} {j : JD} {M : Nat → Prop} {v v' : Value}
theorem PS.up (h : PS g L G Xs w2 i Os jb j M v W) (hb : Below W.heap.size W W') : PS g L G Xs w2 i Os jb j M v W' :=
 ⟨h.jk.up hb, h.jb, h.bd, h.es, fun k hk => ⟨(h.mw k hk).1, Nat.lt_of_lt_of_le (h.mw k hk).2 hb.size⟩, h.ow.up hb, h.dj, h.low.trans (hb.mono h.low.size), h.sub, h.ln, h.im.on (Only.of hb), h.ok⟩
theorem PS.len (h : PS g L G Xs w2 i Os jb j M v W) : j.n ≤ i := by
 have h1 := h.jk.len
 rw [h.es, List.length_map] at h1
 have := h.ln
 omega
theorem PS.more (h : PS g L G Xs w2 i Os jb j M v W) : PS g L G Xs w2 (i + 1) Os jb j M v W := { h with ln := Nat.le_succ_of_le h.ln }
theorem PS.post {x : Ety} {X : List Lnk} (h : PS g L G Xs w2 i Os jb j M v W) (hp : PostP M w2.heap.size j x X W W') : ∃ j' M', JK M' w2.heap.size W' j' ∧ j'.b = jb ∧ BareD g L G j' ∧ j'.Es = Os.map pe ++ [pe (x, X)] ∧ (∀ k, M' k → w2.heap.size ≤ k ∧ k < W'.heap.size) ∧ OwnR lyX 42 W' w2.heap.size v (Os.map (·.1)) ∧ (∀ k, v.ownBlock = some k → ¬ M' k) ∧ Below w2.heap.size w2 W' ∧ Im (fun k => M' k ∨ v.ownBlock = some k) (fun W => GrK W j'.g j'.L j'.G ∧ EtysK W j'.Xs) W' := by
 obtain ⟨A, c, A', c', h1, h2, h3, h4⟩ := hp
 refine ⟨j.add (x.at A c) X A' c', MA M j A' c', h1, h.jb, h.bd, by rw [JD.add_es, h.es]; rfl, fun k hk => ?_, h.ow.blk fun k hk => h2.blk k (h.ow.lt hk).2 (h.dj k hk), fun k hk hm => ?_, h.low.trans (h2.below (fun k hk => (h.mw k hk).1) h.low.size), ?_⟩
 ·obtain ⟨h4, h5⟩ := h3 k hk
  refine ⟨?_, h5⟩
  rcases h4 with h4 | h4
  ·exact (h.mw k h4).1
  ·have := h.low.size; omega
 ·obtain ⟨h4, -⟩ := h3 k hm
  rcases h4 with h4 | h4
  ·exact h.dj k hk h4
  ·have := (h.ow.lt hk).2; omega
 ·have h5 := h.im.step (T := fun k => MA M j A' c' k ∨ v.ownBlock = some k) (h2.wide fun k _ hk => .inl hk) (fun k hk hm => by
   rcases hm with hm | hm
   ·rcases (h3 k hm).1 with h6 | h6
    ·exact .inl h6
    ·omega
   ·exact .inr hm)
  refine (h5.both (h4 (fun k => v.ownBlock = some k) fun k hk => (h.ow.lt hk).2)).imp fun W0 hw => ⟨hw.1.1, fun p hp => ?_⟩
  rcases List.mem_append.1 hp with h7 | h7
  ·exact hw.1.2 p h7
  ·rw [List.mem_singleton] at h7
   rw [h7]; exact hw.2
theorem PS.app {x : Ety} {X : List Lnk} {j2 : JD} {M2 : Nat → Prop} {W8 W9 : World} {v9 : Value} (h1 : JK M2 w2.heap.size W8 j2) (h2 : j2.b = jb) (h3 : BareD g L G j2) (h4 : j2.Es = Os.map pe ++ [pe (x, X)]) (h5 : ∀ k, M2 k → w2.heap.size ≤ k ∧ k < W8.heap.size) (h6 : OwnR lyX 42 W8 w2.heap.size v (Os.map (·.1))) (h7 : ∀ k, v.ownBlock = some k → ¬ M2 k) (h8 : Below w2.heap.size w2 W8)
  (him : Im (fun k => M2 k ∨ v.ownBlock = some k) (fun W => GrK W j2.g j2.L j2.G ∧ EtysK W j2.Xs) W8) (ho : OwnR lyX 42 W9 w2.heap.size v9 (Os.map (·.1) ++ [x])) (hg : W8.grownBy W9 v.ownBlock) (hn : v9.ownBlock = v.ownBlock ∨ v9.ownBlock = some W8.heap.size) (hsub : ∀ p ∈ Os, p ∈ Xs) (hx : (x, X) ∈ Xs) (hln : Os.length ≤ i) (hok : ∀ p ∈ Os, wr (sumT p.2) = 0 ∧ 0 ≤ p.1.ent ∧ p.1.ent < (g.m : Int)) (hox : wr (sumT X) = 0 ∧ 0 ≤ x.ent ∧ x.ent < (g.m : Int)) : PS g L G Xs w2 (i + 1) (Os ++ [(x, X)]) jb j2 M2 v9 W9 := by
 have hon : Only (fun k => v.ownBlock = some k) W8 W9 := Only.grown hg fun k hk => hk
 have hne : ∀ k, M2 k → k < W8.heap.size → W9.heap[k]? = W8.heap[k]? := fun k hm hk => hon.blk k hk fun e => h7 k e hm
 have him9 := him.step (T := fun k => M2 k ∨ v9.ownBlock = some k) (hon.wide fun k _ hk => .inr hk) (fun k hk hm => by
  rcases hm with hm | hm
  ·exact .inl hm
  ·rcases hn with e | e
   ·exact .inr (by rw [← e]; exact hm)
   ·rw [e] at hm
    injection hm with hm
    omega)
 have himM : Im M2 (fun W => GrK W j2.g j2.L j2.G ∧ EtysK W j2.Xs) W9 := him9.step (Only.refl W9) fun k _ hk => .inl hk
 refine ⟨⟨h1.box.only hon (fun e => h7 _ e h1.mb), h1.row.blk fun k hk => hne k (h1.mx k hk) (h1.row.lt hk).2, h1.ln, h1.idx.blk (hne _ h1.mi (h5 _ h1.mi).2), h1.rev.blk (hne _ h1.mr (h5 _ h1.mr).2), himM.imp fun _ h => h.1, himM.imp fun _ h => h.2, h1.mb, h1.mi, h1.mr, h1.mx, h1.ne, h1.hs, h1.hw, h1.good⟩, h2, h3, by rw [h4, List.map_append]; rfl, fun k hk => ⟨(h5 k hk).1, Nat.lt_of_lt_of_le (h5 k hk).2 hon.size⟩, by rw [List.map_append]; exact ho, fun k hk hm => ?_, h8.trans (hon.below (fun k hk => (h6.lt hk).1) h8.size), fun p hp => ?_, by rw [List.length_append]; simp; omega, him9, fun p hp => ?_⟩
 ·rcases hn with e | e
  ·exact h7 k (by rw [← e]; exact hk) hm
  ·rw [e] at hk
   injection hk with hk
   have := (h5 k hm).2
   omega
 ·rcases List.mem_append.1 hp with h9 | h9
  ·exact hsub p h9
  ·rw [List.mem_singleton] at h9
   rw [h9]; exact hx
 ·rcases List.mem_append.1 hp with h9 | h9
  ·exact hok p h9
  ·rw [List.mem_singleton] at h9
   rw [h9]; exact hox
theorem PS.start {j0 : JD} {M0 : Nat → Prop} {w3 : World} (hj0 : JK M0 w2.heap.size w3 j0) (hx0 : j0.Xs = []) (hm0 : ∀ k, M0 k → w2.heap.size ≤ k ∧ k < w3.heap.size) (hd0 : BareD g L G j0) (hb : Below w2.heap.size w2 w3) : PS g L G Xs w2 0 [] j0.b j0 M0 (.slice none 0 0) w3 :=
 ⟨hj0, rfl, hd0, (by unfold JD.Es; rw [hx0]; first | done | rfl), hm0, OwnR.nil, (fun k hk => by cases hk), hb, (fun p hp => by cases hp), Nat.le_refl _, (hj0.grp.both hj0.ets).step (Only.refl w3) (fun k _ hk => hk.elim id fun h => by cases h), fun p hp => by cases hp⟩
end
def PsQ (g : Grp) (L : List Acc) (G : List Ent) (Xs : List Etl) (w2 : World) (e : Ending) (W : World) : Prop :=
 if grpP g L G = true then ∃ jb j M Os A c, e = .returned (.tuple #[.pointer (some ⟨jb, 0, none⟩), .slice A Os.length c, .bool true]) ∧ PS g L G Xs w2 Xs.length Os jb j M (.slice A Os.length c) W
 else e = .returned (.tuple #[.pointer none, .slice none 0 0, .bool true])
def pstF (bb off n c s0 o9 c9 i : Nat) (A9 : Option Addr) (E : Int) (GV XV : Value) : List (Nat × AK.Fact (Below0)) := [(40, AK.Fact.is (GV)), (41, AK.Fact.is (.slice A9 o9 c9)), (42, AK.Fact.is (.slice (some ⟨bb, off, none⟩) n c)), (43, AK.Fact.is (.int .i64 (i : Int))), (44, AK.Fact.is (.pointer (some ⟨bb, off + i * 7, none⟩))), (45, AK.Fact.is (XV)), (46, AK.Fact.is (.int .i64 E)), (11, AK.Fact.is (.int .i64 E))]
set_option maxRecDepth 100000 in
set_option maxHeartbeats 25600000 in
theorem posted_any (g : Grp) (L : List Acc) (G : List Ent) (A : Option Addr) (c : Nat) (Xs : List Etl) (w : World) (hk : GrK w g L G) (hs : Sm g G) (hw : GrW g L G) (hz : RowAt lyX w A (Xs.map (·.1))) (hzs : EtysK w Xs) (hl : Xs.length ≤ 100) (hxs : ∀ p ∈ Xs, p.1.n ≤ 1000 ∧ p.1.txt.size ≤ maxLen ∧ (Lit.int .i64 p.1.id).wf = true ∧ (Lit.int .i64 p.1.of_).wf = true) :
  Calls Tryz.prog 6 #[grpV g, .slice A Xs.length c] w fun e W => ∃ w2, Below w.heap.size w w2 ∧ PsQ g L G Xs w2 e W ∧ Below w2.heap.size w2 W := by
 have HNW := Lib.hid (fun W (h : GrK W g L G) => new_any g L G W h hs hw)
 have HRV := Lib.hid (fun W (h : GrK W g L G) => rvalid10_any g L G W h hs hw)
 have HSM := Lib.hid hs
 have HGW := Lib.hid hw
 obtain ⟨n, hnn⟩ : ∃ n, Xs.length = n := ⟨_, rfl⟩
 obtain ⟨GV, hGV⟩ : ∃ GV, GV = grpV g := ⟨_, rfl⟩
 rw [← hGV] at HNW HRV
 have HGV := Lib.hid hGV
 obtain ⟨gs, hgs⟩ : ∃ gs, (grpC g).toArray = gs := ⟨_, rfl⟩
 rw [show grpV g = .agg gs by rw [grpV_is, hgs]]
 obtain ⟨s0, hs0⟩ : ∃ s0, w.heap.size = s0 := ⟨_, rfl⟩
 obtain ⟨w2, hw2⟩ : ∃ w2, w.alloc (.cells gs 29) = w2 := ⟨_, rfl⟩
 have HGB : Hid (Wh 29 w2 s0 (grpC g)) := Lib.hid (by rw [← hw2, ← hgs, ← hs0]; exact Wh.new w _ _)
 have HB2 : Hid (Below w.heap.size w w2) := Lib.hid (by rw [← hw2]; exact below_alloc_new _)
 have HKC := Lib.hid (hk.up HB2.out)
 have HS0 := Lib.hid hs0
 have HZ2 := Lib.hid (hz.up HB2.out)
 have HZS := Lib.hid (hzs.up HB2.out)
 have HXS := Lib.hid hxs
 have HNN := Lib.hid hnn
 have HL100 : Hid (n ≤ 100) := Lib.hid (by rw [← hnn]; exact hl)
 have HLG : Hid (∀ W, Below w2.heap.size w2 W → (Instr.loadAt 29 (.pointer (some ⟨s0, 0, none⟩))).run Tryz.prog W = .ok GV W) := Lib.hid (fun W h => by rw [hGV, grpV_is]; exact (HGB.out.up h).rg.load 0 29 (grpC g) rfl _ Tryz.underlying29 rfl (by kernel_rfl))
 have HQ : Hid (∀ e W, PsQ g L G Xs w2 e W → Below w2.heap.size w2 W → ∃ w2, Below w.heap.size w w2 ∧ PsQ g L G Xs w2 e W ∧ Below w2.heap.size w2 W) := Lib.hid (fun e W h h2 => ⟨w2, HB2.out, h, h2⟩)
 rw [hnn]
 clear hk hs hw hz hzs hl hxs hnn hgs hGV
 have HM1 : True := trivial
 have HM2 : True := trivial
 cases hv : grpP g L G
 ·have hrv : grpR g L G = false := (grp_eq g L G).symm.trans hv
  rw [hrv] at HRV
  have HNQ : Hid (∀ B e w', NewP g L G B e w' → e = .returned (.tuple #[.pointer none, .int .i64 1])) := Lib.hid (fun B e w' h => by unfold NewP at h; rw [hv] at h; simpa using h)
  have HPQ : Hid (∀ W, PsQ g L G Xs w2 (.returned (.tuple #[.pointer none, .slice none 0 0, .bool true])) W) := Lib.hid (fun W => by unfold PsQ; rw [hv]; rfl)
  clear hv hrv
  go_enter Tryz.func6, Tryz.ntmps6
  go_wp2_with (first
   | (clear HM1; refine wpList_load_is rfl 29 _ rfl (.pointer (some ⟨s0, 0, none⟩)) rfl GV (HLG.out _ (Below.refl _ _)) ?_)
   | (go_at_call 13; refine (HNW.out _ HKC.out).mono ?_; rintro e w3 ⟨hq, hb⟩; obtain rfl := HNQ.out _ _ _ hq; clear hq; have HB3 := Lib.hid hb; clear hb)
   | (clear HM2; refine wpList_load_if (by rfl) 29 _ rfl (.pointer (some ⟨s0, 0, none⟩)) rfl GV (HLG.out _ HB3.out) ?_)
   | (go_at_call 16; refine (HRV.out _ (HKC.out.up HB3.out)).mono ?_; rintro e w4 ⟨rfl, hb⟩; have HB4 := Lib.hid (HB3.out.trans (hb.mono HB3.out.size)); clear hb))
  go_ret3
  exact HQ.out _ _ (HPQ.out _) HB4.out
 ·have HV := Lib.hid hv
  have HNQ : Hid (∀ B e w', NewP g L G B e w' → ∃ j M, e = .returned (.tuple #[.pointer (some ⟨j.b, 0, none⟩), .int .i64 0]) ∧ JK M B w' j ∧ j.Xs = [] ∧ (∀ k, M k → B ≤ k ∧ k < w'.heap.size) ∧ BareD g L G j) := Lib.hid (fun B e w' h => by unfold NewP at h; rw [hv, if_pos rfl] at h; exact h)
  clear hv
  go_enter Tryz.func6, Tryz.ntmps6
  go_wp2_with (first
   | (clear HM1; refine wpList_load_is rfl 29 _ rfl (.pointer (some ⟨s0, 0, none⟩)) rfl GV (HLG.out _ (Below.refl _ _)) ?_)
   | (go_at_call 13; refine (HNW.out _ HKC.out).mono ?_; rintro e w3 ⟨hq, hb⟩; obtain ⟨j0, M0, rfl, hj0, hx0, hm0, hd0⟩ := HNQ.out _ _ _ hq; clear hq; have HP0 := Lib.hid (PS.start (Xs := Xs) hj0 hx0 hm0 hd0 hb); clear hb hj0 hx0 hm0 hd0))
  obtain ⟨jb, hjb⟩ : ∃ jb, j0.b = jb := ⟨_, rfl⟩
  rw [hjb] at HP0 ⊢
  clear hjb
  go_loopg [9, 10] n (fun kx s9 s10 wr => ∃ (i : Nat), s10 = .int .i64 (i : Int) ∧ i ≤ n ∧ n - i ≤ kx ∧ Hid (∃ Os j M, PS g L G Xs w2 i Os jb j M s9 wr))
  case atStart => exact ⟨0, rfl, by omega, by omega, Lib.hid ⟨[], j0, M0, HP0.out⟩⟩
  case round =>
   obtain ⟨i, rfl, hi, hkx, HL⟩ := hrel
   obtain ⟨Os, j, M, hps⟩ := HL.out
   clear HL
   obtain ⟨A9, c9, e9, hr9, -⟩ := hps.ow.reads
   obtain ⟨o9, ho9⟩ : ∃ o9, (Os.map (·.1)).length = o9 := ⟨_, rfl⟩
   rw [ho9] at e9
   subst e9
   have HO9 : Hid (Os.length = o9) := Lib.hid (by rw [← ho9, List.length_map])
   clear ho9 hr9
   by_cases hlt : i < n
   ·have hltz : (i : Int) < (n : Int) := by omega
    obtain ⟨p, hp⟩ : ∃ p, Xs[i]? = some p := ⟨_, List.getElem?_eq_getElem (by rw [HNN.out]; exact hlt)⟩
    have hpm := List.mem_of_getElem? hp
    have hym : (Xs.map (·.1))[i]? = some p.1 := by rw [List.getElem?_map, hp]; rfl
    have hkk := HZS.out p hpm
    obtain ⟨hp1, hp2, hp3, hp4⟩ := HXS.out p hpm
    obtain ⟨bb, off, hA, hbl, hrg⟩ := HZ2.out.at hym
    subst hA
    obtain ⟨x, X⟩ := p
    obtain ⟨XV, hXV⟩ : ∃ XV, XV = etyV x := ⟨_, rfl⟩
    have HLX : Hid (∀ W, Below w2.heap.size w2 W → (Instr.loadAt 42 (.pointer (some ⟨bb, off + i * 7, none⟩))).run Tryz.prog W = .ok XV W) := Lib.hid (fun W hW => by rw [hXV, etyV_is]; exact run_loadAt_mid W bb (off + i * 7) 42 (etyC x) _ (fun jj v hv => (hW.cell (p := ⟨bb, off + i * 7 + jj, none⟩) hbl).trans (hrg jj v hv)) Tryz.underlying42 rfl (by kernel_rfl))
    have HEK : Hid (∀ W, Below w2.heap.size w2 W → EtyK W x X) := Lib.hid (fun W hW => hkk.up hW)
    have HIZ := Lib.hid hltz
    have HPS := Lib.hid hps
    obtain ⟨E, hE⟩ : ∃ E, postE (rchkN (shpB (grpR g L G) g x X) (acB (G.getD x.ent.toNat ent0).L X) (rtlN g x X)) (Os.map pe) (pe (x, X)) = E := ⟨_, rfl⟩
    have HOX := Lib.hid (fun (h0 : E = 0) => rchk_ok (postE_zero (by rw [← hps.es]; exact hps.jk.good) (hE.trans h0)).1)
    have hcb := chk_bare hps.bd HV.out HKC.out.lg x X hkk.ln
    have HRP : Hid (∀ W, PS g L G Xs w2 i Os jb j M (.slice A9 o9 c9) W → Calls Tryz.prog 11 #[GV, .slice A9 o9 c9, XV] W fun e w' => e = .returned (.int .i64 E) ∧ Below W.heap.size W w') := Lib.hid (fun W h => by
     obtain ⟨A8, c8, e8, hr8, -⟩ := h.ow.reads
     injection e8 with e8 _ _
     have h9 := r12post_any g L G A9 c9 Os x X W (HKC.out.up h.low) HSM.out HGW.out (by rw [e8]; exact hr8) (fun p hp => (HZS.out p (h.sub p hp)).up h.low) (fun p hp => by rw [(HZS.out p (h.sub p hp)).ln]; exact (HXS.out p (h.sub p hp)).1) (by have := h.ln; have := HL100.out; omega) (HEK.out _ h.low) hp1 hp2
     rw [hE, ← HGV.out, ← hXV, HO9.out] at h9
     exact h9)
    have HPO : Hid (∀ W, PS g L G Xs w2 i Os jb j M (.slice A9 o9 c9) W → Calls Tryz.prog 9 #[.pointer (some ⟨jb, 0, none⟩), XV] W fun e w' => e = .returned (.int .i64 E) ∧ PostQ E M w2.heap.size j x X W w') := Lib.hid (fun W h => by
     have h9 := jpost_any (B := w2.heap.size) j x X W h.jk (HEK.out _ h.low) hp1 hp3 hp4 h.low.size (by have := h.len; have := HL100.out; omega) (fun k hk => (h.mw k hk).2)
     rw [hcb, h.es, hE, ← hXV, h.jb] at h9
     exact h9)
    have HPM := Lib.hid hpm
    have HXV := Lib.hid hXV
    clear hp hym hkk hrg hbl hpm hps hcb hE hp1 hp2 hp3 hp4 hXV
    go_upto_region 8 with fail
    refine AK.region_facts (Rp := Below0) (Kp := Below0) (pstF bb off n c s0 o9 c9 i A9 E GV XV) (fun _ _ W => Below wr.heap.size wr W) [[], [], [], [], [42, 43], [44], [40, 41, 45], [46]] [] [[]] [0, 0, 0, 0, 0, 0, 0, 0] [0, 0, 0, 0, 0, 0, 0, 0] [] (fun u => by simp only [pstF, AK.temps, List.map_cons, List.map_nil, fillL, List.setIfInBounds_toArray, List.set_cons_zero, List.set_cons_succ]; rfl) (by kernel_rfl) (by kernel_rfl) (fun _ _ h => h.size) (fun _ _ h => h) (fun _ _ _ _ hb h => h.trans (hb.mono h.size)) (dc_drew (Below.refl _ _)) ?_ ?_
    ·refine AK.sc (lim := 0) (lo := 0) rfl rfl rfl rfl ?_ ?_
     ·intro k_ u w_ hk_ hl_ hJ hF K hK
      clear hF
      refine wp_load_is 29 _ rfl (.pointer (some ⟨s0, 0, none⟩)) rfl GV (HLG.out _ (HPS.out.up hJ).low) ?_
      exact hK.out _ _ bR rfl trivial
     refine AK.sc (lim := 0) (lo := 0) rfl rfl rfl rfl ?_ ?_
     ·intro k_ u w_ hk_ hl_ hJ hF K hK
      clear hF
      go_simp
      exact hK.out _ _ bR (rfl) trivial
     refine AK.sc (lim := 0) (lo := 0) rfl rfl rfl rfl ?_ ?_
     ·intro k_ u w_ hk_ hl_ hJ hF K hK
      clear hF
      go_simp
      exact hK.out _ _ bR (rfl) trivial
     refine AK.sc (lim := 0) (lo := 0) rfl rfl rfl rfl ?_ ?_
     ·intro k_ u w_ hk_ hl_ hJ hF K hK
      clear hF
      go_simp
      exact hK.out _ _ bR (rfl) trivial
     refine AK.sc (lim := 0) (lo := 0) rfl rfl rfl rfl ?_ ?_
     ·intro k_ u w_ hk_ hl_ hJ hF K hK
      have h42 : u 42 = .slice (some ⟨bb, off, none⟩) n c := AK.facts_get hF 42 (by simp)
      have h43 : u 43 = .int .i64 (i : Int) := AK.facts_get hF 43 (by simp)
      clear hF
      simp only [h42, h43] at hK ⊢
      clear h42 h43
      have hz_ := HIZ.out
      go_simp
      exact hK.out _ _ bR (rfl) trivial
     refine AK.sc (lim := 0) (lo := 0) rfl rfl rfl rfl ?_ ?_
     ·intro k_ u w_ hk_ hl_ hJ hF K hK
      have h44 : u 44 = .pointer (some ⟨bb, off + i * 7, none⟩) := AK.facts_get hF 44 (by simp)
      clear hF
      simp only [h44] at hK ⊢
      clear h44
      refine wp_load_is 42 _ rfl (.pointer (some ⟨bb, off + i * 7, none⟩)) rfl XV (HLX.out _ (HPS.out.up hJ).low) ?_
      exact hK.out _ _ bR rfl trivial
     refine AK.sc (lim := 0) (lo := 0) rfl rfl rfl rfl ?_ ?_
     ·intro k_ u w_ hk_ hl_ hJ hF K hK
      have h40 : u 40 = GV := AK.facts_get hF 40 (by simp)
      have h41 : u 41 = .slice A9 o9 c9 := AK.facts_get hF 41 (by simp)
      have h45 : u 45 = XV := AK.facts_get hF 45 (by simp)
      clear hF
      simp only [h40, h41, h45] at hK ⊢
      clear h40 h41 h45
      go_simp
      refine (HRP.out _ (HPS.out.up hJ)).mono ?_
      rintro r w6 ⟨rfl, hb6⟩
      exact hK.out _ _ hb6 rfl trivial
     refine AK.sc (lim := 0) (lo := 0) rfl rfl rfl rfl ?_ ?_
     ·intro k_ u w_ hk_ hl_ hJ hF K hK
      have h46 : u 46 = .int .i64 E := AK.facts_get hF 46 (by simp)
      clear hF
      simp only [h46] at hK ⊢
      clear h46
      go_simp
      exact hK.out _ _ bR (rfl) trivial
     exact AK.StepsOk.nil
    ·intro u W9 hJ9 hF
     have h11 : u 11 = .int .i64 E := AK.facts_get hF 11 (by simp [pstF, AK.temps])
     clear hF
     have HPS9 := Lib.hid (HPS.out.up hJ9)
     simp only [h11]
     clear hJ9 h11
     by_cases hE0 : E = 0
     ·have hz1 : (E == 0) = true := by simp [hE0]
      obtain ⟨i0, hi, hzz1, hzz2, hzz3⟩ := info_parts infoEx
      have HM3 : True := trivial
      have HM4 : True := trivial
      have HE0 := Lib.hid hE0
      clear hE0
      go_upto_region 12 with (first
       | (clear HM3; refine wpList_load_is rfl 42 _ rfl (.pointer (some ⟨bb, off + i * 7, none⟩)) rfl XV (HLX.out _ HPS9.out.low) ?_)
       | (go_at_call 9; refine (HPO.out _ HPS9.out).mono ?_; rintro e w7 ⟨rfl, hq⟩; obtain ⟨j2, M2, a1, a2, a3, a4, a5, a6, a7, a8, a9⟩ := HPS9.out.post (hq.yes HE0.out); have H1 := Lib.hid a1; have H2 := Lib.hid a2; have H3 := Lib.hid a3; have H4 := Lib.hid a4; have H5 := Lib.hid a5; have H6 := Lib.hid a6; have H7 := Lib.hid a7; have H8 := Lib.hid a8; have H9 := Lib.hid a9; clear hq a1 a2 a3 a4 a5 a6 a7 a8 a9))
      have hx8 : Below w7.heap.size w7 (w7.alloc (.cells #[.int .i64 x.id, .int .i64 x.ent, .int .i64 x.day, .int .i64 x.kind, .int .i64 x.of_, .string x.txt, .slice x.A x.n x.c] 42)) := below_alloc_new _
      have HX8 := Lib.hid hx8
      have HR8 : Hid (RowAt lyX (w7.alloc (.cells #[.int .i64 x.id, .int .i64 x.ent, .int .i64 x.day, .int .i64 x.kind, .int .i64 x.of_, .string x.txt, .slice x.A x.n x.c] 42)) (some ⟨w7.heap.size, 0, none⟩) [x]) := Lib.hid (row_one (R := lyX) (x := x) (Wh.new w7 42 (etyC x)))
      have HA8 := Lib.hid (H6.out.up hx8)
      have HOL : Hid ((Os.map (·.1)).length ≤ 1000) := Lib.hid (by rw [List.length_map]; have := HPS.out.ln; have := HL100.out; omega)
      have HLY : Hid (∀ W, Below w2.heap.size w2 W → (Instr.loadAt 42 (.pointer (some ⟨bb, off + i * 7, none⟩))).run Tryz.prog W = .ok (etyV x) W) := Lib.hid (fun W h => by rw [← HXV.out]; exact HLX.out W h)
      clear hx8
      go_wp2_with (first
       | (clear HM4; refine wpList_load_is rfl 42 _ rfl (.pointer (some ⟨bb, off + i * 7, none⟩)) rfl (etyV x) (HLY.out _ H8.out) ?_)
       | (at_builtin; refine wpList_app_row (R := lyX) rfl (.tmp 59) (.tmp 64) 30 rfl i0 _ 80 Tryz.underlying30 hi hzz1 hzz2 hzz3 (by omega) rfl rfl HA8.out (some ⟨w7.heap.size, 0, none⟩) 1 1 [x] rfl rfl HR8.out (by have := HOL.out; omega) (by have := HX8.out.size; have := H8.out.size; omega) ?_; intro v9 w9 hr9 hg9 hn9; have HZ9 : Hid (PS g L G Xs w2 (i + 1) (Os ++ [(x, X)]) jb j2 M2 v9 w9) := Lib.hid (PS.app (H1.out.up HX8.out) H2.out H3.out H4.out (fun k hk => ⟨(H5.out k hk).1, Nat.lt_of_lt_of_le (H5.out k hk).2 HX8.out.size⟩) HA8.out H7.out (H8.out.trans (HX8.out.mono H8.out.size)) (H9.out.on (Only.of HX8.out)) hr9.out hg9.out hn9.out HPS.out.sub HPM.out HPS.out.ln HPS.out.ok (HOX.out HE0.out)); clear hr9 hg9 hn9))
      go_roundg (n - (i + 1))
      case measure => omega
      case rel => exact ⟨i + 1, by (have hn100 := HL100.out; first | go_num | (refine congrArg (Value.int .i64) ?_; unfold wrap64; omega)), by omega, by omega, Lib.hid ⟨Os ++ [(x, X)], j2, M2, HZ9.out⟩⟩
     ·have hz1 : (E == 0) = false := by simp [hE0]
      have HE0 := Lib.hid hE0
      have HM3 : True := trivial
      clear hE0
      go_wp2_with (first
       | (clear HM3; refine wpList_load_is rfl 42 _ rfl (.pointer (some ⟨bb, off + i * 7, none⟩)) rfl XV (HLX.out _ HPS9.out.low) ?_)
       | (go_at_call 9; refine (HPO.out _ HPS9.out).mono ?_; rintro e w7 ⟨rfl, hq⟩; have HPT := Lib.hid (HPS9.out.up (hq.no HE0.out)); clear hq))
      go_roundg (n - (i + 1))
      case measure => omega
      case rel => exact ⟨i + 1, by (have hn100 := HL100.out; first | go_num | (refine congrArg (Value.int .i64) ?_; unfold wrap64; omega)), by omega, by omega, Lib.hid ⟨Os, j, M, HPT.out.more⟩⟩
   ·obtain rfl : n = i := by omega
    have hltz : ¬ (n : Int) < (n : Int) := by omega
    have HPS := Lib.hid hps
    clear hps
    go_wp2_with fail
    go_ret3
    have hq : PsQ g L G Xs w2 (.returned (.tuple #[.pointer (some ⟨jb, 0, none⟩), .slice A9 o9 c9, .bool true])) wr := by unfold PsQ; rw [if_pos HV.out]; exact ⟨jb, j, M, Os, A9, c9, by rw [HO9.out], by rw [HO9.out, HNN.out]; exact HPS.out⟩
    obtain ⟨w4, q1, q2, q3⟩ := HQ.out _ _ hq HPS.out.low
    exact ⟨w4, by first | exact q1 | (rw [← HS0.out]; exact q1), q2, q3⟩
open Go.RowKit
theorem fndX_n {M : Nat → Prop} {B : Nat} {w : World} {j : JD} (h : JK M B w j) (id : Int) : (fndX j.Xs id).1.n ≤ 1000 ∧ (fndX j.Xs id).2.length = (fndX j.Xs id).1.n := by
 have hk := fndX_k h.ets.now id
 refine ⟨?_, hk.ln⟩
 cases hb : fndB j.Xs id with
 | false => rw [fndX_no hb]; exact Nat.zero_le _
 | true =>
  have h1 := List.mem_of_getElem? (fndX_yes hb)
  have h2 := h.good.ln _ (List.mem_map_of_mem (f := pe) h1)
  rw [← hk.ln]
  exact h2
def lineP (Y : List Lnk) (b : Int) : Option Lnk := if 0 ≤ b then Y[b.toNat]? else none
theorem lineP_neg {Y : List Lnk} {b : Int} (h : b < 0) : lineP Y b = none := by unfold lineP; rw [if_neg (by omega)]
theorem lineP_big {Y : List Lnk} {b : Int} (h : (Y.length : Int) ≤ b) : lineP Y b = none := by
 unfold lineP
 split
 ·exact List.getElem?_eq_none (by omega)
 ·rfl
def lineV (l : Option Lnk) : Value := match l with | some x => .tuple #[lnkV x, .bool true] | none => .tuple #[.agg #[.int .i64 0, .int .i64 0, .int .i64 0], .bool false]
set_option maxRecDepth 100000 in
set_option maxHeartbeats 3200000 in
theorem jget_any {M : Nat → Prop} {B : Nat} (j : JD) (id : Int) (w : World) (hj : JK M B w j) (hi : (Lit.int .i64 id).wf = true) (hn : j.n ≤ 100000) : Calls Tryz.prog 19 #[.pointer (some ⟨j.b, 0, none⟩), .int .i64 id] w fun e w' => (∃ A c, e = .returned (.tuple #[etyV ((fndX j.Xs id).1.at A c), .bool (fndB j.Xs id)]) ∧ EtyK w' ((fndX j.Xs id).1.at A c) (fndX j.Xs id).2) ∧ Below w.heap.size w w' := by
 obtain ⟨s0, hs0⟩ : ∃ s0, w.heap.size = s0 := ⟨_, rfl⟩
 obtain ⟨w2, hw2⟩ : ∃ w2, w.alloc (.cells #[.int .i64 0, .int .i64 0, .int .i64 0, .int .i64 0, .int .i64 0, .string ⟨#[]⟩, .slice none 0 0] 42) = w2 := ⟨_, rfl⟩
 have HZ : Hid (Wh 42 w2 s0 [.int .i64 0, .int .i64 0, .int .i64 0, .int .i64 0, .int .i64 0, .string ⟨#[]⟩, .slice none 0 0]) := Lib.hid (by rw [← hw2, ← hs0]; exact Wh.new w 42 [.int .i64 0, .int .i64 0, .int .i64 0, .int .i64 0, .int .i64 0, .string ⟨#[]⟩, .slice none 0 0])
 have HB2 : Hid (Below s0 w w2) := Lib.hid (by rw [← hw2, ← hs0]; exact below_alloc_new _)
 have HS2 : Hid (w2.heap.size = s0 + 1) := Lib.hid (by rw [← hw2, ← hs0]; simp)
 have HS0 := Lib.hid hs0
 have hj2 := hj.up (HB2.out.mono (Nat.le_of_eq hs0))
 have HF := Lib.hid (find_any j id w2 hj2 hi hn)
 have HYK := Lib.hid (fndX_k hj2.ets.now id)
 have HYN := Lib.hid (fndX_n hj2 id).1
 generalize fndX j.Xs id = yy at *
 generalize fndB j.Xs id = bb at *
 obtain ⟨y, Y⟩ := yy
 clear hj hj2 hi hn
 have HCO := Lib.hid (fun W (h : EtyK W y Y) => copyof_any y Y W h HYN.out)
 have HYL : Hid (Y.length = y.n) := Lib.hid HYK.out.ln
 have HYO : Hid (∀ l ∈ Y, okK (kOf l) ∧ (Lit.int .i64 l.tgt).wf = true) := Lib.hid HYK.out.ok
 go_enter Tryz.func19, Tryz.ntmps19
 go_upto_region 2 with (first
  | (go_at_call 44; refine HF.out.mono ?_; rintro e w3 ⟨rfl, hb⟩; have HB3 := Lib.hid hb; clear hb; obtain ⟨s3, hs3⟩ : ∃ s3, w3.heap.size = s3 := ⟨_, rfl⟩; have HS3 := Lib.hid hs3)
  | (refine wpList_store_wh rfl 42 _ _ rfl s3 rfl 42 [.int .i64 0, .int .i64 0, .int .i64 0, .int .i64 0, .int .i64 0, .string ⟨#[]⟩, .slice none 0 0] (etyC y) rfl (by rw [← HS3.out]; exact Wh.new w3 42 [.int .i64 0, .int .i64 0, .int .i64 0, .int .i64 0, .int .i64 0, .string ⟨#[]⟩, .slice none 0 0]) rfl (by kernel_rfl) (by kernel_rfl) ?_; intro w5 hr5 ho5 hz5; have HR5 := Lib.hid hr5.out; have hb5 : Below w3.heap.size w3 w5 := only_new (by rw [HS3.out]; exact ho5.out); have HB5 := Lib.hid (HB3.out.trans (hb5.mono HB3.out.size)); clear hr5 ho5 hz5 hb5 hs3 HB3))
 have HLE : Hid ((Instr.loadAt 42 (.pointer (some ⟨s3, 0, none⟩))).run Tryz.prog w5 = .ok (etyV y) w5) := Lib.hid (HR5.out.rg.load 0 42 (etyC y) rfl _ Tryz.underlying42 rfl (by kernel_rfl))
 have HM1 : True := trivial
 have HM2 : True := trivial
 go_wp2_with (first
  | (clear HM1; refine wpList_load_is rfl 42 _ rfl (.pointer (some ⟨s3, 0, none⟩)) rfl (etyV y) HLE.out ?_)
  | (go_at_call 29; refine (HCO.out _ (HYK.out.up HB5.out)).mono ?_; rintro e w6 ⟨⟨A6, c6, rfl, ho6⟩, hb⟩; have HO6 := Lib.hid ho6; have HB6 := Lib.hid (HB5.out.trans (hb.mono HB5.out.size)); clear hb ho6; have HZ6 := Lib.hid (HZ.out.up HB6.out))
  | (clear HM2; refine wpList_store_wh rfl 42 _ _ rfl s0 rfl 42 [.int .i64 0, .int .i64 0, .int .i64 0, .int .i64 0, .int .i64 0, .string ⟨#[]⟩, .slice none 0 0] (etyC (y.at A6 c6)) rfl HZ6.out rfl (by kernel_rfl) (by kernel_rfl) ?_; intro w8 hr8 ho8 hz8))
 refine bodyPost_ret (v := .tuple #[etyV (y.at A6 c6), .bool bb]) (results_cell2 Tryz.results19 _ _ s0 (etyC (y.at A6 c6)) _ _ rfl rfl hr8.out.range Tryz.underlying42 rfl (by kernel_rfl)) rfl ⟨⟨A6, c6, rfl, HYL.out, ?_, HYO.out⟩, ?_⟩
 ·have h6 := HO6.out.blk (w' := w8) fun g hg => ho8.out.blk g (HO6.out.lt hg).2 (fun h => by
   have h7 : g = s0 := h
   have := (HO6.out.lt hg).1; have := HB5.out.size; have := HS2.out; omega)
  obtain ⟨A7, c7, e7, h8, -⟩ := h6.reads
  injection e7 with e7 _ _
  show LnkAt w8 A6 Y
  rw [e7]
  exact lnk_row.1 h8
 ·have h9 : Below s0 w w8 := (HB2.out.trans (HB6.out.mono (by have := HS2.out; omega))).trans (ho8.out.below (B := s0) (fun k hk => Nat.le_of_eq hk.symm) (by have := HB6.out.size; have := HS2.out; omega))
  first | exact h9 | (rw [HS0.out]; exact h9)
set_option maxRecDepth 100000 in
set_option maxHeartbeats 3200000 in
theorem jline_any {M : Nat → Prop} {B : Nat} (j : JD) (a b : Int) (w : World) (hj : JK M B w j) (hi : (Lit.int .i64 a).wf = true) (hn : j.n ≤ 100000) : Calls Tryz.prog 22 #[.pointer (some ⟨j.b, 0, none⟩), .agg #[.int .i64 a, .int .i64 b]] w fun e w' => e = .returned (lineV (lineP (fndX j.Xs a).2 b)) ∧ Below w.heap.size w w' := by
 obtain ⟨s0, hs0⟩ : ∃ s0, w.heap.size = s0 := ⟨_, rfl⟩
 obtain ⟨w2, hw2⟩ : ∃ w2, (w.alloc (.cells #[.int .i64 a, .int .i64 b] 32)).alloc (.cells #[.int .i64 0, .int .i64 0, .int .i64 0] 46) = w2 := ⟨_, rfl⟩
 have HAB : Hid (Wh 32 w2 s0 [.int .i64 a, .int .i64 b]) := Lib.hid (by rw [← hw2, ← hs0]; exact (Wh.new w _ _).up (below_alloc_new _))
 have HZ : Hid (Wh 46 w2 (s0 + 1) [.int .i64 0, .int .i64 0, .int .i64 0]) := Lib.hid (by
  rw [← hw2, ← hs0]
  have h9 := Wh.new (w.alloc (.cells #[.int .i64 a, .int .i64 b] 32)) 46 [.int .i64 0, .int .i64 0, .int .i64 0]
  rw [World.size_alloc] at h9
  exact h9)
 have HB2 : Hid (Below s0 w w2) := Lib.hid (by rw [← hw2, ← hs0]; exact below_new (below_alloc_new _) _)
 have HS2 : Hid (w2.heap.size = s0 + 2) := Lib.hid (by rw [← hw2, ← hs0]; simp)
 have HS0 := Lib.hid hs0
 have HBD : Hid (∀ W, (Instr.build 46 #[]).run Tryz.prog W = .ok (.agg #[.int .i64 0, .int .i64 0, .int .i64 0]) W) := Lib.hid (fun W => run_build W 46 _ _ (by kernel_rfl))
 have hj2 := hj.up (HB2.out.mono (Nat.le_of_eq hs0))
 have HF := Lib.hid (find_any j a w2 hj2 hi hn)
 have HYK := Lib.hid (fndX_k hj2.ets.now a)
 have hYn := (fndX_n hj2 a).1
 generalize fndX j.Xs a = yy at *
 generalize fndB j.Xs a = bb at *
 obtain ⟨y, Y⟩ := yy
 have hYl : Y.length = y.n := HYK.out.ln
 have q0 := HAB.out.at 0 _ rfl
 have HM1 : True := trivial
 have HM2 : True := trivial
 have HM3 : True := trivial
 clear hj hj2 hi hn
 by_cases hb0 : b < 0
 ·have hb1 : ¬ (0 : Int) ≤ b := by omega
  rw [lineP_neg (Y := (y, Y).2) hb0]
  go_enter Tryz.func22, Tryz.ntmps22
  go_wp2_with (first
   | (go_at_call 44; refine HF.out.mono ?_; rintro e w3 ⟨rfl, hb⟩; have HB3 := Lib.hid hb; clear hb; obtain ⟨s3, hs3⟩ : ∃ s3, w3.heap.size = s3 := ⟨_, rfl⟩; have HS3 := Lib.hid hs3)
   | (clear HM1; refine wpList_store_wh rfl 42 _ _ rfl s3 rfl 42 [.int .i64 0, .int .i64 0, .int .i64 0, .int .i64 0, .int .i64 0, .string ⟨#[]⟩, .slice none 0 0] (etyC y) rfl (by rw [← HS3.out]; exact Wh.new w3 42 [.int .i64 0, .int .i64 0, .int .i64 0, .int .i64 0, .int .i64 0, .string ⟨#[]⟩, .slice none 0 0]) rfl (by kernel_rfl) (by kernel_rfl) ?_; intro w5 hr5 ho5 hz5; have q6 : w5.cell? ⟨s3, 6, none⟩ = some (.slice y.A y.n y.c) := hr5.out.at 6 _ rfl; have hb5 : Below w3.heap.size w3 w5 := only_new (by rw [HS3.out]; exact ho5.out); have HB5 := Lib.hid (HB3.out.trans (hb5.mono HB3.out.size)); have q1 := (HAB.out.up HB5.out).at 1 _ rfl; have HZ5 := Lib.hid (HZ.out.up HB5.out); clear hr5 ho5 hz5 hb5 hs3 HB3)
   | (refine wpList_build_is rfl 46 _ rfl [] rfl (.agg #[.int .i64 0, .int .i64 0, .int .i64 0]) (HBD.out _) ?_)
   | (clear HM2; refine wpList_store_wh rfl 46 _ _ rfl (s0 + 1) rfl 46 [.int .i64 0, .int .i64 0, .int .i64 0] ([.int .i64 0, .int .i64 0, .int .i64 0]) rfl HZ5.out rfl (by kernel_rfl) (by kernel_rfl) ?_; intro w8 hr8 ho8 hz8))
  refine bodyPost_ret (v := .tuple #[.agg #[.int .i64 0, .int .i64 0, .int .i64 0], .bool false]) (results_cell2 Tryz.results22 _ _ (s0 + 1) ([.int .i64 0, .int .i64 0, .int .i64 0]) _ _ rfl rfl hr8.out.range Tryz.underlying46 rfl (by kernel_rfl)) rfl ⟨rfl, ?_⟩
  have h9 : Below s0 w w8 := (HB2.out.trans (HB5.out.mono (by have := HS2.out; omega))).trans (ho8.out.below (B := s0) (fun k hk => by have h8 : k = s0 + 1 := hk; omega) (by have := HB5.out.size; have := HS2.out; omega))
  first | exact h9 | (rw [HS0.out]; exact h9)
 ·have hb1 : (0 : Int) ≤ b := by omega
  by_cases hb2 : (y.n : Int) ≤ b
  ·rw [lineP_big (Y := (y, Y).2) (by rw [hYl]; exact hb2)]
   go_enter Tryz.func22, Tryz.ntmps22
   go_wp2_with (first
    | (go_at_call 44; refine HF.out.mono ?_; rintro e w3 ⟨rfl, hb⟩; have HB3 := Lib.hid hb; clear hb; obtain ⟨s3, hs3⟩ : ∃ s3, w3.heap.size = s3 := ⟨_, rfl⟩; have HS3 := Lib.hid hs3)
    | (clear HM1; refine wpList_store_wh rfl 42 _ _ rfl s3 rfl 42 [.int .i64 0, .int .i64 0, .int .i64 0, .int .i64 0, .int .i64 0, .string ⟨#[]⟩, .slice none 0 0] (etyC y) rfl (by rw [← HS3.out]; exact Wh.new w3 42 [.int .i64 0, .int .i64 0, .int .i64 0, .int .i64 0, .int .i64 0, .string ⟨#[]⟩, .slice none 0 0]) rfl (by kernel_rfl) (by kernel_rfl) ?_; intro w5 hr5 ho5 hz5; have q6 : w5.cell? ⟨s3, 6, none⟩ = some (.slice y.A y.n y.c) := hr5.out.at 6 _ rfl; have hb5 : Below w3.heap.size w3 w5 := only_new (by rw [HS3.out]; exact ho5.out); have HB5 := Lib.hid (HB3.out.trans (hb5.mono HB3.out.size)); have q1 := (HAB.out.up HB5.out).at 1 _ rfl; have HZ5 := Lib.hid (HZ.out.up HB5.out); clear hr5 ho5 hz5 hb5 hs3 HB3)
    | (refine wpList_build_is rfl 46 _ rfl [] rfl (.agg #[.int .i64 0, .int .i64 0, .int .i64 0]) (HBD.out _) ?_)
    | (clear HM2; refine wpList_store_wh rfl 46 _ _ rfl (s0 + 1) rfl 46 [.int .i64 0, .int .i64 0, .int .i64 0] ([.int .i64 0, .int .i64 0, .int .i64 0]) rfl HZ5.out rfl (by kernel_rfl) (by kernel_rfl) ?_; intro w8 hr8 ho8 hz8))
   refine bodyPost_ret (v := .tuple #[.agg #[.int .i64 0, .int .i64 0, .int .i64 0], .bool false]) (results_cell2 Tryz.results22 _ _ (s0 + 1) ([.int .i64 0, .int .i64 0, .int .i64 0]) _ _ rfl rfl hr8.out.range Tryz.underlying46 rfl (by kernel_rfl)) rfl ⟨rfl, ?_⟩
   have h9 : Below s0 w w8 := (HB2.out.trans (HB5.out.mono (by have := HS2.out; omega))).trans (ho8.out.below (B := s0) (fun k hk => by have h8 : k = s0 + 1 := hk; omega) (by have := HB5.out.size; have := HS2.out; omega))
   first | exact h9 | (rw [HS0.out]; exact h9)
  ·obtain ⟨k, rfl⟩ : ∃ k : Nat, b = (k : Int) := ⟨b.toNat, by omega⟩
   have hkn : k < y.n := by omega
   have hkz : (k : Int) < (y.n : Int) := by omega
   clear hb0 hb1
   obtain ⟨l, hl⟩ : ∃ l, Y[k]? = some l := ⟨_, List.getElem?_eq_getElem (by omega)⟩
   have hlp : lineP (y, Y).2 (k : Int) = some l := by unfold lineP; rw [if_pos (by omega)]; exact hl
   rw [hlp]
   obtain ⟨g, off, hA, hgl, hrg⟩ := (lnk_row.2 HYK.out.hz).at hl
   have HLL : Hid (∀ W, Below w2.heap.size w2 W → (Instr.loadAt 46 (.pointer (some ⟨g, off + k * 3, none⟩))).run Tryz.prog W = .ok (lnkV l) W) := Lib.hid (fun W hW => run_loadAt_mid W g (off + k * 3) 46 (celL l) _ (fun jj v hv => (hW.cell (p := ⟨g, off + k * 3 + jj, none⟩) hgl).trans (hrg jj v hv)) Tryz.underlying46 rfl (by kernel_rfl))
   have HHA := Lib.hid hA
   clear hl hlp hrg hgl hA HYK
   go_enter Tryz.func22, Tryz.ntmps22
   go_wp2_with (first
    | (go_at_call 44; refine HF.out.mono ?_; rintro e w3 ⟨rfl, hb⟩; have HB3 := Lib.hid hb; clear hb; obtain ⟨s3, hs3⟩ : ∃ s3, w3.heap.size = s3 := ⟨_, rfl⟩; have HS3 := Lib.hid hs3)
    | (clear HM1; refine wpList_store_wh rfl 42 _ _ rfl s3 rfl 42 [.int .i64 0, .int .i64 0, .int .i64 0, .int .i64 0, .int .i64 0, .string ⟨#[]⟩, .slice none 0 0] (etyC y) rfl (by rw [← HS3.out]; exact Wh.new w3 42 [.int .i64 0, .int .i64 0, .int .i64 0, .int .i64 0, .int .i64 0, .string ⟨#[]⟩, .slice none 0 0]) rfl (by kernel_rfl) (by kernel_rfl) ?_; intro w5 hr5 ho5 hz5; have q6 : w5.cell? ⟨s3, 6, none⟩ = some (.slice y.A y.n y.c) := hr5.out.at 6 _ rfl; rw [HHA.out] at q6; have hb5 : Below w3.heap.size w3 w5 := only_new (by rw [HS3.out]; exact ho5.out); have HB5 := Lib.hid (HB3.out.trans (hb5.mono HB3.out.size)); have q1 := (HAB.out.up HB5.out).at 1 _ rfl; have HZ5 := Lib.hid (HZ.out.up HB5.out); clear hr5 ho5 hz5 hb5 hs3 HB3)
    | (clear HM3; refine wpList_load_is rfl 46 _ rfl (.pointer (some ⟨g, off + k * 3, none⟩)) rfl (lnkV l) (HLL.out _ HB5.out) ?_)
    | (clear HM2; refine wpList_store_wh rfl 46 _ _ rfl (s0 + 1) rfl 46 [.int .i64 0, .int .i64 0, .int .i64 0] (celL l) rfl HZ5.out rfl (by kernel_rfl) (by kernel_rfl) ?_; intro w8 hr8 ho8 hz8))
   refine bodyPost_ret (v := .tuple #[lnkV l, .bool true]) (results_cell2 Tryz.results22 _ _ (s0 + 1) (celL l) _ _ rfl rfl hr8.out.range Tryz.underlying46 rfl (by kernel_rfl)) rfl ⟨rfl, ?_⟩
   have h9 : Below s0 w w8 := (HB2.out.trans (HB5.out.mono (by have := HS2.out; omega))).trans (ho8.out.below (B := s0) (fun k hk => by have h8 : k = s0 + 1 := hk; omega) (by have := HB5.out.size; have := HS2.out; omega))
   first | exact h9 | (rw [HS0.out]; exact h9)
def LnJ (w : World) (s0 : Nat) (a i : Int) (l : Lnk) (k : Nat) (_ : List Value) (W : World) : Prop := Below s0 w W ∧ s0 ≤ W.heap.size ∧ Wh 32 W s0 [.int .i64 a, .int .i64 i] ∧ (k = 0 → Wh 46 W (s0 + 1) [.int .i64 0, .int .i64 0, .int .i64 0]) ∧ (k = 1 → Wh 46 W (s0 + 1) (celL l))
theorem LnJ.st {w W W' : World} {s0 k : Nat} {a i : Int} {l : Lnk} {v : List Value} (hb : Below W.heap.size W W') (h : LnJ w s0 a i l k v W) : LnJ w s0 a i l k v W' :=
 ⟨h.1.trans (hb.mono h.2.1), Nat.le_trans h.2.1 hb.size, h.2.2.1.up hb, fun e => (h.2.2.2.1 e).up hb, fun e => (h.2.2.2.2 e).up hb⟩
theorem wp_store_wh {P : Program} {o : Oper} {a : Act} {w : World} {K : Act → World → Prop} {Q : Exit → Act → World → Prop} (ty : TypeId) (x y : Operand) (hop : o.op = .store ty x y)
  (b : Nat) (hx : a.eval x = .pointer (some ⟨b, 0, none⟩)) (t : TypeId) (cs vs : List Value) (hy : a.eval y = .agg vs.toArray) (hw : Wh t w b cs) (hl : vs.length = cs.length)
  (hi : (P.info? ty).map (·.size) = some vs.toArray.size) (h1 : vs.toArray.all (·.oneCell') = true)
  (h : ∀ W, Hid (Wh t W b vs) → Hid (Only (fun k => k = b) w W) → W.heap.size = w.heap.size → K (a.put o.dst undef) W) : Oper.wp P o a w K Q :=
 wp_store_mid ty x y hop b 0 vs.toArray hx hy (hw.there (by simp [hl])) hi h1 (h _ (Lib.hid (hw.put vs hl)) (Lib.hid (Only.setCells (S := fun k => k = b) rfl vs 0 w)) (by
  have : ∀ (vs : List Value) (o : Nat) (w : World), (w.setCells b o vs).heap.size = w.heap.size := by
   intro vs
   induction vs with
   | nil => intro o w; rfl
   | cons v r ih => intro o w; rw [World.setCells, ih]; exact World.size_setCell _ _ _
  exact this _ _ _))
def rlnF (bb off n c k s0 g o2 i : Nat) (y : Ety) (l : Lnk) : List (Nat × AK.Fact (SizeUp)) := [(30, AK.Fact.is (.slice (some ⟨bb, off, none⟩) n c)), (31, AK.Fact.is (.int .i64 (k : Int))), (32, AK.Fact.is (.pointer (some ⟨bb, off + k * 7, none⟩))), (33, AK.Fact.is (.pointer (some ⟨bb, off + k * 7 + 6, none⟩))), (34, AK.Fact.is (.slice (some ⟨g, o2, none⟩) y.n y.c)), (35, AK.Fact.is (.pointer (some ⟨s0, 1, none⟩))), (36, AK.Fact.is (.int .i64 (i : Int))), (37, AK.Fact.is (.pointer (some ⟨g, o2 + i * 3, none⟩))), (38, AK.Fact.is (lnkV l)), (5, AK.Fact.is (.bool true))]
set_option maxRecDepth 100000 in
set_option maxHeartbeats 12800000 in
theorem r12line_any (A : Option Addr) (c : Nat) (Xs : List Etl) (a b : Int) (w : World) (hz : RowAt lyX w A (Xs.map (·.1))) (hzs : EtysK w Xs) (hl : Xs.length ≤ 100000) : Calls Tryz.prog 23 #[.slice A Xs.length c, .agg #[.int .i64 a, .int .i64 b]] w fun e w' => e = .returned (lineV (lineP (fndX Xs a).2 b)) ∧ Below w.heap.size w w' := by
 obtain ⟨n, hn⟩ : ∃ n, Xs.length = n := ⟨_, rfl⟩
 obtain ⟨s0, hs0⟩ : ∃ s0, w.heap.size = s0 := ⟨_, rfl⟩
 obtain ⟨w2, hw2⟩ : ∃ w2, (w.alloc (.cells #[.int .i64 a, .int .i64 b] 32)).alloc (.cells #[.int .i64 0, .int .i64 0, .int .i64 0] 46) = w2 := ⟨_, rfl⟩
 have HAB : Hid (Wh 32 w2 s0 [.int .i64 a, .int .i64 b]) := Lib.hid (by rw [← hw2, ← hs0]; exact (Wh.new w _ _).up (below_alloc_new _))
 have HZ : Hid (Wh 46 w2 (s0 + 1) [.int .i64 0, .int .i64 0, .int .i64 0]) := Lib.hid (by
  rw [← hw2, ← hs0]
  have h9 := Wh.new (w.alloc (.cells #[.int .i64 a, .int .i64 b] 32)) 46 [.int .i64 0, .int .i64 0, .int .i64 0]
  rw [World.size_alloc] at h9
  exact h9)
 have HB2 : Hid (Below s0 w w2) := Lib.hid (by rw [← hw2, ← hs0]; exact below_new (below_alloc_new _) _)
 have HS2 : Hid (w2.heap.size = s0 + 2) := Lib.hid (by rw [← hw2, ← hs0]; simp)
 have HS0 := Lib.hid hs0
 have HLOW : Hid (∀ W W', Below w2.heap.size w2 W → Only (fun k => k = s0 + 1) W W' → Below s0 w W') := Lib.hid (fun W W' h1 h2 => (HB2.out.trans (h1.mono (by have := HS2.out; omega))).trans (h2.below (B := s0) (fun k hk => by have h8 : k = s0 + 1 := hk; omega) (by have := h1.size; have := HS2.out; omega)))
 have HBD : Hid (∀ W, (Instr.build 46 #[]).run Tryz.prog W = .ok (.agg #[.int .i64 0, .int .i64 0, .int .i64 0]) W) := Lib.hid (fun W => run_build W 46 _ _ (by kernel_rfl))
 have hz2 := hz.up (hs0.symm ▸ HB2.out)
 have HGE := Lib.hid (r12get_any A c Xs a w2 hz2 hl)
 rw [hn] at HGE hl ⊢
 have q1 := HAB.out.at 1 _ rfl
 have q0 := HAB.out.at 0 _ rfl
 have hno := fndX_no (Xs := Xs) (id := a)
 have hyes := fndX_yes (Xs := Xs) (id := a)
 have hkk := fndX_k hzs a
 unfold getP at HGE
 rw [List.length_map, hn] at HGE
 unfold fndB at hno hyes
 rw [hn] at hno hyes
 by_cases hf : idxP (Xs.map pe) a < n
 ·rw [if_pos hf] at HGE
  have hy := hyes (decide_eq_true hf)
  have HNN := Lib.hid hn
  generalize fndX Xs a = yy at *
  generalize idxP (Xs.map pe) a = k at *
  obtain ⟨y, Y⟩ := yy
  have hym : (Xs.map (·.1))[k]? = some y := by rw [List.getElem?_map, hy]; rfl
  obtain ⟨bb, off, hA, hbl, hrg⟩ := hz.at hym
  rw [hs0] at hbl
  subst hA
  have HC6 : Hid (∀ W, Below s0 w W → W.cell? ⟨bb, off + k * 7 + 6, none⟩ = some (.slice y.A y.n y.c)) := Lib.hid (fun W hW => (hW.cell (p := ⟨bb, off + k * 7 + 6, none⟩) hbl).trans (hrg 6 _ rfl))
  have c6 := HC6.out _ HB2.out
  have hkz : (k : Int) < (n : Int) := by omega
  have hk0 : decide ((k : Int) < 0) = false := decide_eq_false (by omega)
  have HKZ := Lib.hid hkz
  have hYl : Y.length = y.n := hkk.ln
  clear hno hyes hy hym hrg hz hzs hn hf
  by_cases hb0 : b < 0
  ·have hb1 : decide (b < 0) = true := decide_eq_true hb0
   rw [lineP_neg (Y := (y, Y).2) hb0]
   clear hkk hb0
   go_enter Tryz.func23, Tryz.ntmps23
   go_upto_region 2 with (go_at_call 20; refine HGE.out.mono ?_; rintro e w3 ⟨rfl, hW⟩; have hW2 := hW.symm; subst hW2; have HWW : Hid (w3 = w3) := Lib.hid rfl; clear hW)
   go_quiet (fail)
   have HB9 : Hid (Below w3.heap.size w3 (World.drewN w3 nq)) := Lib.hid (below_drewN (Below.refl _ _) nq)
   generalize World.drewN _ nq = W1 at *
   go_wp2_with (first
    | (refine wpList_build_is rfl 46 _ rfl [] rfl (.agg #[.int .i64 0, .int .i64 0, .int .i64 0]) (HBD.out _) ?_)
    | (refine wpList_store_wh rfl 46 _ _ rfl (s0 + 1) rfl 46 [.int .i64 0, .int .i64 0, .int .i64 0] [.int .i64 0, .int .i64 0, .int .i64 0] rfl (HZ.out.up HB9.out) rfl (by kernel_rfl) (by kernel_rfl) ?_; intro w8 hr8 ho8 hz8))
   refine bodyPost_ret (v := .tuple #[.agg #[.int .i64 0, .int .i64 0, .int .i64 0], .bool false]) (results_cell2 Tryz.results23 _ _ (s0 + 1) [.int .i64 0, .int .i64 0, .int .i64 0] _ _ rfl rfl hr8.out.range Tryz.underlying46 rfl (by kernel_rfl)) rfl ⟨rfl, ?_⟩
   have h9 := HLOW.out _ _ HB9.out ho8.out
   first | exact h9 | (rw [HS0.out]; exact h9)
  ·have hb1 : decide (b < 0) = false := decide_eq_false hb0
   by_cases hb2 : (y.n : Int) ≤ b
   ·rw [lineP_big (Y := (y, Y).2) (by rw [hYl]; exact hb2)]
    have hb3 : decide (b ≥ (y.n : Int)) = true := decide_eq_true hb2
    have hb4 : decide ((y.n : Int) ≤ b) = true := decide_eq_true hb2
    clear hkk hb0 hb2
    go_enter Tryz.func23, Tryz.ntmps23
    go_upto_region 2 with (go_at_call 20; refine HGE.out.mono ?_; rintro e w3 ⟨rfl, hW⟩; have hW2 := hW.symm; subst hW2; have HWW : Hid (w3 = w3) := Lib.hid rfl; clear hW)
    go_quiet (fail)
    have HB9 : Hid (Below w3.heap.size w3 (World.drewN w3 nq)) := Lib.hid (below_drewN (Below.refl _ _) nq)
    generalize World.drewN _ nq = W1 at *
    go_wp2_with (first
     | (refine wpList_build_is rfl 46 _ rfl [] rfl (.agg #[.int .i64 0, .int .i64 0, .int .i64 0]) (HBD.out _) ?_)
     | (refine wpList_store_wh rfl 46 _ _ rfl (s0 + 1) rfl 46 [.int .i64 0, .int .i64 0, .int .i64 0] [.int .i64 0, .int .i64 0, .int .i64 0] rfl (HZ.out.up HB9.out) rfl (by kernel_rfl) (by kernel_rfl) ?_; intro w8 hr8 ho8 hz8))
    refine bodyPost_ret (v := .tuple #[.agg #[.int .i64 0, .int .i64 0, .int .i64 0], .bool false]) (results_cell2 Tryz.results23 _ _ (s0 + 1) [.int .i64 0, .int .i64 0, .int .i64 0] _ _ rfl rfl hr8.out.range Tryz.underlying46 rfl (by kernel_rfl)) rfl ⟨rfl, ?_⟩
    have h9 := HLOW.out _ _ HB9.out ho8.out
    first | exact h9 | (rw [HS0.out]; exact h9)
   ·have hb3 : decide (b ≥ (y.n : Int)) = false := decide_eq_false hb2
    have hb4 : decide ((y.n : Int) ≤ b) = false := decide_eq_false hb2
    obtain ⟨i, rfl⟩ : ∃ i : Nat, b = (i : Int) := ⟨b.toNat, by omega⟩
    have hin : i < y.n := by omega
    obtain ⟨l, hl2⟩ : ∃ l, Y[i]? = some l := ⟨_, List.getElem?_eq_getElem (by omega)⟩
    have hlp : lineP (y, Y).2 (i : Int) = some l := by unfold lineP; rw [if_pos (by omega)]; exact hl2
    rw [hlp]
    obtain ⟨g, o2, hA2, hgl, hrg2⟩ := (lnk_row.2 hkk.hz).at hl2
    rw [hs0] at hgl
    have HLL : Hid (∀ W, Below s0 w W → (Instr.loadAt 46 (.pointer (some ⟨g, o2 + i * 3, none⟩))).run Tryz.prog W = .ok (lnkV l) W) := Lib.hid (fun W hW => run_loadAt_mid W g (o2 + i * 3) 46 (celL l) _ (fun jj v hv => (hW.cell (p := ⟨g, o2 + i * 3 + jj, none⟩) hgl).trans (hrg2 jj v hv)) Tryz.underlying46 rfl (by kernel_rfl))
    have HIZ : Hid ((i : Int) < (y.n : Int)) := Lib.hid (by omega)
    rw [hA2] at HC6 c6
    clear hkk hb0 hb2 hl2 hlp hgl hrg2 hA2
    go_enter Tryz.func23, Tryz.ntmps23
    go_upto_region 2 with (go_at_call 20; refine HGE.out.mono ?_; rintro e w3 ⟨rfl, hW⟩; have hW2 := hW.symm; subst hW2; clear hW)
    go_quiet (fail)
    have HB9 : Hid (Below w3.heap.size w3 (World.drewN w3 nq)) := Lib.hid (below_drewN (Below.refl _ _) nq)
    generalize World.drewN _ nq = W1 at *
    have HJ0 : Hid (LnJ w s0 a (i : Int) l 0 [] W1.drew) := Lib.hid ⟨dc_drew (HB2.out.trans (HB9.out.mono (by have := HS2.out; omega))), (by have := HB9.out.size; have := HS2.out; show s0 ≤ W1.heap.size; omega), (HAB.out.up (dc_drew HB9.out)), (fun _ => HZ.out.up (dc_drew HB9.out)), fun h => by cases h⟩
    go_upto_region 4 with fail
    try simp only [show decide (y.n ≤ i) = false from decide_eq_false (by omega)]
    clear hk0 hb1 hb3 hb4 hin q0 q1 c6 hkz
    refine AK.region_facts (Rp := Below0) (Kp := SizeUp) (rlnF bb off n c k s0 g o2 i y l) (LnJ w s0 a (i : Int) l) [[], [], [30, 31], [32], [33], [], [35], [34, 36], [37], [38], []] [9] [[], []] [0, 0, 0, 0, 0, 0, 0, 0, 0, 1, 1] [0, 0, 0, 0, 0, 0, 0, 0, 0, 0, 0] [] (fun u => by simp only [rlnF, AK.temps, List.map_cons, List.map_nil, fillL, List.setIfInBounds_toArray, List.set_cons_zero, List.set_cons_succ]; rfl) (by kernel_rfl) (by kernel_rfl) (fun _ _ h => h) (fun _ _ h => h.size) (fun _ _ _ _ hb h => h.st hb) (HJ0.out) ?_ ?_
    ·refine AK.sc (lim := 0) (lo := 0) rfl rfl rfl rfl ?_ ?_
     ·intro k_ u w_ hk_ hl_ hJ hF K hK
      obtain rfl : k_ = 0 := by omega
      clear hF
      go_simp
      exact hK.out _ _ bR (rfl) trivial
     refine AK.sc (lim := 0) (lo := 0) rfl rfl rfl rfl ?_ ?_
     ·intro k_ u w_ hk_ hl_ hJ hF K hK
      obtain rfl : k_ = 0 := by omega
      clear hF
      go_simp
      exact hK.out _ _ bR (rfl) trivial
     refine AK.sc (lim := 0) (lo := 0) rfl rfl rfl rfl ?_ ?_
     ·intro k_ u w_ hk_ hl_ hJ hF K hK
      obtain rfl : k_ = 0 := by omega
      have h30 : u 30 = .slice (some ⟨bb, off, none⟩) n c := AK.facts_get hF 30 (by simp)
      have h31 : u 31 = .int .i64 (k : Int) := AK.facts_get hF 31 (by simp)
      clear hF
      simp only [h30, h31] at hK ⊢
      clear h30 h31
      have hz_ := HKZ.out
      go_simp
      exact hK.out _ _ bR (rfl) trivial
     refine AK.sc (lim := 0) (lo := 0) rfl rfl rfl rfl ?_ ?_
     ·intro k_ u w_ hk_ hl_ hJ hF K hK
      obtain rfl : k_ = 0 := by omega
      have h32 : u 32 = .pointer (some ⟨bb, off + k * 7, none⟩) := AK.facts_get hF 32 (by simp)
      clear hF
      simp only [h32] at hK ⊢
      clear h32
      go_simp
      exact hK.out _ _ bR (rfl) trivial
     refine AK.sc (lim := 0) (lo := 0) rfl rfl rfl rfl ?_ ?_
     ·intro k_ u w_ hk_ hl_ hJ hF K hK
      obtain rfl : k_ = 0 := by omega
      have h33 : u 33 = .pointer (some ⟨bb, off + k * 7 + 6, none⟩) := AK.facts_get hF 33 (by simp)
      clear hF
      simp only [h33] at hK ⊢
      clear h33
      have c_ := HC6.out _ hJ.1
      go_simp
      exact hK.out _ _ bR (rfl) trivial
     refine AK.sc (lim := 0) (lo := 0) rfl rfl rfl rfl ?_ ?_
     ·intro k_ u w_ hk_ hl_ hJ hF K hK
      obtain rfl : k_ = 0 := by omega
      clear hF
      go_simp
      exact hK.out _ _ bR (rfl) trivial
     refine AK.sc (lim := 0) (lo := 0) rfl rfl rfl rfl ?_ ?_
     ·intro k_ u w_ hk_ hl_ hJ hF K hK
      obtain rfl : k_ = 0 := by omega
      have h35 : u 35 = .pointer (some ⟨s0, 1, none⟩) := AK.facts_get hF 35 (by simp)
      clear hF
      simp only [h35] at hK ⊢
      clear h35
      have c_ := hJ.2.2.1.at 1 _ rfl
      go_simp
      exact hK.out _ _ bR (rfl) trivial
     refine AK.sc (lim := 0) (lo := 0) rfl rfl rfl rfl ?_ ?_
     ·intro k_ u w_ hk_ hl_ hJ hF K hK
      obtain rfl : k_ = 0 := by omega
      have h34 : u 34 = .slice (some ⟨g, o2, none⟩) y.n y.c := AK.facts_get hF 34 (by simp)
      have h36 : u 36 = .int .i64 (i : Int) := AK.facts_get hF 36 (by simp)
      clear hF
      simp only [h34, h36] at hK ⊢
      clear h34 h36
      have hz_ := HIZ.out
      go_simp
      exact hK.out _ _ bR (rfl) trivial
     refine AK.sc (lim := 0) (lo := 0) rfl rfl rfl rfl ?_ ?_
     ·intro k_ u w_ hk_ hl_ hJ hF K hK
      obtain rfl : k_ = 0 := by omega
      have h37 : u 37 = .pointer (some ⟨g, o2 + i * 3, none⟩) := AK.facts_get hF 37 (by simp)
      clear hF
      simp only [h37] at hK ⊢
      clear h37
      refine wp_load_is 46 _ rfl (.pointer (some ⟨g, o2 + i * 3, none⟩)) rfl (lnkV l) (HLL.out _ hJ.1) ?_
      exact hK.out _ _ bR rfl trivial
     refine AK.ss rfl rfl ?_ ?_
     ·intro u w_ hJ hA_ hF K hK
      have h38 : u 38 = lnkV l := AK.facts_get hF 38 (by simp)
      clear hF
      simp only [h38] at hK ⊢
      clear h38
      refine wp_store_wh 46 _ _ rfl (s0 + 1) rfl 46 [.int .i64 0, .int .i64 0, .int .i64 0] (celL l) rfl (hJ.2.2.2.1 rfl) rfl (by kernel_rfl) (by kernel_rfl) ?_
      intro W hr ho hz
      exact hK.out undef _ ⟨hJ.1.trans (ho.out.below (B := s0) (fun k hk => by have h8 : k = s0 + 1 := hk; omega) hJ.2.1), Nat.le_trans hJ.2.1 ho.out.size, hJ.2.2.1.only ho.out (fun e => by have h8 : s0 = s0 + 1 := e; omega), (fun h => by cases h), fun _ => hr.out⟩ (Nat.le_of_eq hz.symm) trivial
     refine AK.sc (lim := 1) (lo := 0) rfl rfl rfl rfl ?_ ?_
     ·intro k_ u w_ hk_ hl_ hJ hF K hK
      clear hF
      go_simp
      exact hK.out _ _ bR (rfl) trivial
     exact AK.StepsOk.nil
    ·intro u W9 hJ9 hF
     have h5 : u 5 = .bool true := AK.facts_get hF 5 (by simp [rlnF, AK.temps])
     clear hF
     have hr9 := hJ9.2.2.2.2 rfl
     have hb9 := hJ9.1
     simp only [h5]
     clear hJ9 h5
     go_wp2_with fail
     refine bodyPost_ret (v := .tuple #[lnkV l, .bool true]) (results_cell2 Tryz.results23 _ _ (s0 + 1) (celL l) _ _ rfl rfl hr9.range Tryz.underlying46 rfl (by kernel_rfl)) rfl ⟨rfl, ?_⟩
     have h9 := hb9
     first | exact h9 | (rw [HS0.out]; exact h9)
 ·rw [if_neg hf] at HGE
  rw [hno (decide_eq_false hf)]
  have hb1 : decide ((-1 : Int) < 0) = true := by decide
  have hlp : lineP (ety0, ([] : List Lnk)).2 b = none := by unfold lineP; split <;> simp
  rw [hlp]
  clear hno hyes hkk hz hzs hf hn hz2 hlp
  go_enter Tryz.func23, Tryz.ntmps23
  go_upto_region 2 with (go_at_call 20; refine HGE.out.mono ?_; rintro e w3 ⟨rfl, hW⟩; have hW2 := hW.symm; subst hW2; have HWW : Hid (w3 = w3) := Lib.hid rfl; clear hW)
  go_quiet (fail)
  have HB9 : Hid (Below w3.heap.size w3 (World.drewN w3 nq)) := Lib.hid (below_drewN (Below.refl _ _) nq)
  generalize World.drewN _ nq = W1 at *
  go_wp2_with (first
   | (refine wpList_build_is rfl 46 _ rfl [] rfl (.agg #[.int .i64 0, .int .i64 0, .int .i64 0]) (HBD.out _) ?_)
   | (refine wpList_store_wh rfl 46 _ _ rfl (s0 + 1) rfl 46 [.int .i64 0, .int .i64 0, .int .i64 0] [.int .i64 0, .int .i64 0, .int .i64 0] rfl (HZ.out.up HB9.out) rfl (by kernel_rfl) (by kernel_rfl) ?_; intro w8 hr8 ho8 hz8))
  refine bodyPost_ret (v := .tuple #[.agg #[.int .i64 0, .int .i64 0, .int .i64 0], .bool false]) (results_cell2 Tryz.results23 _ _ (s0 + 1) [.int .i64 0, .int .i64 0, .int .i64 0] _ _ rfl rfl hr8.out.range Tryz.underlying46 rfl (by kernel_rfl)) rfl ⟨rfl, ?_⟩
  have h9 := HLOW.out _ _ HB9.out ho8.out
  first | exact h9 | (rw [HS0.out]; exact h9)
structure CopP (w : World) (B : Nat) (v : Value) (Zs : List Etl) : Prop where
 row : OwnR lyX 42 w B v (Zs.map (·.1))
 lns : ∀ p ∈ Zs, p.2.length = p.1.n ∧ (∀ l ∈ p.2, okK (kOf l) ∧ (Lit.int .i64 l.tgt).wf = true) ∧ OwnR lyL 46 w B (.slice p.1.A p.1.n p.1.c) p.2
section
variable {w w' : World} {B : Nat} {v v' : Value} {Zs : List Etl}
theorem CopP.up (h : CopP w B v Zs) (hb : Below w.heap.size w w') : CopP w' B v Zs := ⟨h.row.up hb, fun p hp => ⟨(h.lns p hp).1, (h.lns p hp).2.1, (h.lns p hp).2.2.up hb⟩⟩
def CopQ (B : Nat) (Es : List PE) (e : Ending) (w' : World) : Prop := ∃ v Zs, e = .returned v ∧ CopP w' B v Zs ∧ Zs.map pe = Es
theorem CopQ.mk {Es : List PE} (h : CopP w' B v Zs) (he : Zs.map pe = Es) : CopQ B Es (.returned v) w' := ⟨v, Zs, rfl, h, he⟩
theorem own_ety {p : Etl} (h : p.2.length = p.1.n ∧ (∀ l ∈ p.2, okK (kOf l) ∧ (Lit.int .i64 l.tgt).wf = true) ∧ OwnR lyL 46 w B (.slice p.1.A p.1.n p.1.c) p.2) : EtyK w p.1 p.2 := by
 obtain ⟨h1, h2, h3⟩ := h
 obtain ⟨A', c', e, hr, -⟩ := h3.reads
 injection e with e _ _
 exact ⟨h1, by rw [e]; exact lnk_row.1 hr, h2⟩
theorem CopP.etys (h : CopP w B v Zs) : EtysK w Zs := fun p hp => own_ety (h.lns p hp)
theorem CopP.snoc {p : Etl} (h : CopP w B v Zs) (hg : w.grownBy w' v.ownBlock) (hr : OwnR lyX 42 w' B v' (Zs.map (·.1) ++ [p.1])) (hp : p.2.length = p.1.n ∧ (∀ l ∈ p.2, okK (kOf l) ∧ (Lit.int .i64 l.tgt).wf = true) ∧ OwnR lyL 46 w B (.slice p.1.A p.1.n p.1.c) p.2) : CopP w' B v' (Zs ++ [p]) := by
 have key : ∀ q : Etl, OwnR lyL 46 w B (.slice q.1.A q.1.n q.1.c) q.2 → OwnR lyL 46 w' B (.slice q.1.A q.1.n q.1.c) q.2 := fun q h1 => h1.blk fun g h2 => hg.block g (h1.lt h2).2 (fun e => own_apart h1 h.row (by decide) h2 e.symm)
 refine ⟨by rw [List.map_append]; exact hr, fun q hq => ?_⟩
 rcases List.mem_append.1 hq with h1 | h1
 ·exact ⟨(h.lns q h1).1, (h.lns q h1).2.1, key q (h.lns q h1).2.2⟩
 ·simp at h1
  rw [h1]
  exact ⟨hp.1, hp.2.1, key p hp.2.2⟩
end
theorem grown_below0 {α : Type} {R : Lay α} {e : TypeId} {w w' : World} {B : Nat} {v : Value} {L : List α} (h : OwnR R e w B v L) (hg : w.grownBy w' v.ownBlock) (hB : B ≤ w.heap.size) : Below B w w' :=
 (Only.grown (S := fun k => v.ownBlock = some k) hg fun k hk => hk).below (fun k hk => (h.lt hk).1) hB
set_option maxRecDepth 100000 in
theorem ent1_any (x : Ety) (w : World) : Calls Tryz.prog 32 #[etyV x] w fun e w' => e = .returned (.bool true) ∧ Below w.heap.size w w' := by
 obtain ⟨xs, hxs⟩ : ∃ xs, (etyC x).toArray = xs := ⟨_, rfl⟩
 have hxV : etyV x = .agg xs := by rw [etyV_is, hxs]
 rw [hxV]
 have HB := Lib.hid (fun o => below_alloc_new (w := w) o)
 go_enter Tryz.func32, Tryz.ntmps32
 go_wp2_with fail
 go_ret
 exact ⟨rfl, HB.out _⟩
set_option maxRecDepth 100000 in
set_option maxHeartbeats 6400000 in
theorem copall_any (A : Option Addr) (c : Nat) (Xs : List Etl) (w : World) (hz : RowAt lyX w A (Xs.map (·.1))) (hzs : EtysK w Xs) (hzn : ∀ p ∈ Xs, p.2.length ≤ 1000) (hl : Xs.length ≤ 100000) : Calls Tryz.prog 30 #[.slice A Xs.length c, .func (.func 32) #[] #[]] w fun e w' => CopQ w.heap.size (Xs.map pe) e w' ∧ Below w.heap.size w w' := by
 obtain ⟨i0, hi, hz1, hz2, hz3⟩ := info_parts infoEx
 obtain ⟨n, hn⟩ : ∃ n, Xs.length = n := ⟨_, rfl⟩
 rw [hn] at hl ⊢
 obtain ⟨B0, hB0⟩ : ∃ B0, w.heap.size = B0 := ⟨_, rfl⟩
 have HB0 := Lib.hid hB0
 have HN := Lib.hid hn
 have HZ := Lib.hid hz
 have HZS := Lib.hid hzs
 have HZN := Lib.hid hzn
 have HL := Lib.hid hl
 clear hn hz hzs hzn
 go_enter Tryz.func30, Tryz.ntmps30
 go_wp2_with fail
 go_loopg [5, 10] n (fun kx s5 s10 wr => ∃ (k : Nat) (Zs : List Etl), s10 = .int .i64 k ∧ k ≤ n ∧ n - k ≤ kx ∧ Hid (CopP wr B0 s5 Zs) ∧ Hid (Zs.map pe = (Xs.take k).map pe) ∧ Hid (Below B0 w wr))
 case atStart => exact ⟨0, [], rfl, by omega, by omega, Lib.hid ⟨OwnR.nil, fun p hp => by cases hp⟩, Lib.hid rfl, Lib.hid (Below.refl _ _)⟩
 case round =>
  obtain ⟨k, Zs, rfl, hk, hkx, HC, HE, HB⟩ := hrel
  by_cases hlt : k < n
  ·have hltz : (k : Int) < (n : Int) := by omega
   obtain ⟨q, hq⟩ : ∃ q, Xs[k]? = some q := ⟨_, List.getElem?_eq_getElem (by rw [HN.out]; exact hlt)⟩
   obtain ⟨y, Y⟩ := q
   have hmem : (y, Y) ∈ Xs := List.mem_of_getElem? hq
   have hYK := HZS.out _ hmem
   have HYK : Hid (EtyK w y Y) := Lib.hid hYK
   have HYn : Hid (y.n ≤ 1000) := Lib.hid (by have h1 : Y.length ≤ 1000 := HZN.out _ hmem; have h2 : Y.length = y.n := hYK.ln; omega)
   have HYL : Hid (Y.length = y.n) := Lib.hid hYK.ln
   have HYO : Hid (∀ l ∈ Y, okK (kOf l) ∧ (Lit.int .i64 l.tgt).wf = true) := Lib.hid hYK.ok
   obtain ⟨b, off, hA, hbl, hrg⟩ := HZ.out.at (i := k) (a := y) (by rw [List.getElem?_map, hq]; rfl)
   subst hA
   have HLY : Hid (∀ W, Below B0 w W → (Instr.loadAt 42 (.pointer (some ⟨b, off + k * 7, none⟩))).run Tryz.prog W = .ok (etyV y) W) := Lib.hid (fun W hW => run_loadAt_mid W b (off + k * 7) 42 (etyC y) _ (fun jj v hv => (hW.cell (p := ⟨b, off + k * 7 + jj, none⟩) (by rw [← HB0.out]; exact hbl)).trans (hrg jj v hv)) Tryz.underlying42 rfl (by kernel_rfl))
   have HTK : Hid ((Xs.take (k + 1)).map pe = (Xs.take k).map pe ++ [pe (y, Y)]) := Lib.hid (by rw [List.take_add_one, hq, List.map_append]; rfl)
   have HLC : Hid (Zs.length = k) := Lib.hid (by have h := congrArg List.length HE.out; rw [List.length_map, List.length_map, List.length_take] at h; have := HN.out; omega)
   obtain ⟨sr, hsr⟩ : ∃ sr, wr.heap.size = sr := ⟨_, rfl⟩
   have HSR := Lib.hid hsr
   have HM0 : True := trivial
   clear hq hmem hYK hrg hbl
   go_upto_region 5 with (first
    | (clear HM0; refine wpList_load_is rfl 42 _ rfl (.pointer (some ⟨b, off + k * 7, none⟩)) rfl (etyV y) (HLY.out _ HB.out) ?_)
    | (refine wpList_store_wh rfl 42 _ _ rfl sr rfl 42 [.int .i64 0, .int .i64 0, .int .i64 0, .int .i64 0, .int .i64 0, .string ⟨#[]⟩, .slice none 0 0] (etyC y) rfl (by rw [← HSR.out]; exact Wh.new wr 42 [.int .i64 0, .int .i64 0, .int .i64 0, .int .i64 0, .int .i64 0, .string ⟨#[]⟩, .slice none 0 0]) rfl (by kernel_rfl) (by kernel_rfl) ?_; intro w5 hr5 ho5 hz5; have HR5 := Lib.hid hr5.out; have hb5 : Below wr.heap.size wr w5 := only_new (by rw [HSR.out]; exact ho5.out); have HC5 := Lib.hid (HC.out.up hb5); have HB5 := Lib.hid (HB.out.trans (hb5.mono (by have := HB.out.size; have := HB0.out; omega))); clear hr5 ho5 hz5 hb5 hsr HC HB))
   have HLE : Hid (∀ W, Below w5.heap.size w5 W → (Instr.loadAt 42 (.pointer (some ⟨sr, 0, none⟩))).run Tryz.prog W = .ok (etyV y) W) := Lib.hid (fun W hW => (HR5.out.up hW).rg.load 0 42 (etyC y) rfl _ Tryz.underlying42 rfl (by kernel_rfl))
   obtain ⟨YV, hYV⟩ : ∃ YV, YV = etyV y := ⟨_, rfl⟩
   have HE1 := Lib.hid (fun W => ent1_any y W)
   have HCO := Lib.hid (fun W (h : EtyK W y Y) => copyof_any y Y W h HYn.out)
   rw [← hYV] at HLE HE1 HCO
   clear hYV
   have HM1 : True := trivial
   have HM2 : True := trivial
   go_wp2_with (first
    | (clear HM1; refine wpList_load_is rfl 42 _ rfl (.pointer (some ⟨sr, 0, none⟩)) rfl YV (HLE.out _ (Below.refl _ _)) ?_)
    | (clear HM2; refine wpList_load_is rfl 42 _ rfl (.pointer (some ⟨sr, 0, none⟩)) rfl YV (HLE.out _ HB6.out) ?_)
    | (go_at_call 32; refine (HE1.out _).mono ?_; rintro e w6 ⟨rfl, hb⟩; have HB6 := Lib.hid hb; clear hb)
    | (go_at_call 29; refine (HCO.out _ (HYK.out.up ((HB5.out.trans (HB6.out.mono (by have := HB5.out.size; have := HB0.out; omega))).mono (Nat.le_of_eq HB0.out)))).mono ?_; rintro e w7 ⟨⟨A6, c6, rfl, ho7⟩, hb⟩; have HO7 := Lib.hid ho7; have HB7 := Lib.hid (HB6.out.trans (hb.mono HB6.out.size)); clear hb ho7; rw [show etyV (y.at A6 c6) = .agg #[.int .i64 y.id, .int .i64 y.ent, .int .i64 y.day, .int .i64 y.kind, .int .i64 y.of_, .string y.txt, .slice A6 y.n c6] from rfl]; have HBX := Lib.hid (below_alloc_new (w := w7) (.cells #[.int .i64 y.id, .int .i64 y.ent, .int .i64 y.day, .int .i64 y.kind, .int .i64 y.of_, .string y.txt, .slice A6 y.n c6] 42)); have HWX : Hid (Wh 42 (w7.alloc (.cells #[.int .i64 y.id, .int .i64 y.ent, .int .i64 y.day, .int .i64 y.kind, .int .i64 y.of_, .string y.txt, .slice A6 y.n c6] 42)) w7.heap.size (etyC (y.at A6 c6))) := Lib.hid (Wh.new w7 42 (etyC (y.at A6 c6))); have HC7 := Lib.hid ((HC5.out.up HB7.out).up HBX.out); have HO8 := Lib.hid (HO7.out.up HBX.out))
    | (refine wpList_app_row (R := lyX) rfl _ _ 30 rfl i0 _ 80 Tryz.underlying30 hi hz1 hz2 hz3 (by omega) rfl rfl HC7.out.row (some ⟨w7.heap.size, 0, none⟩) 1 1 [y.at A6 c6] rfl rfl (row_one HWX.out) (by have := HLC.out; have := HL.out; simp; omega) (by have := HB5.out.size; have := HB7.out.size; have := HBX.out.size; have := HB0.out; omega) ?_; intro v9 w9 hr9 hg9 hb9; have HR9 := Lib.hid hr9.out; have HG9 := Lib.hid hg9.out; clear hr9 hg9 hb9))
   have hlo : OwnR lyL 46 (w7.alloc (.cells #[.int .i64 y.id, .int .i64 y.ent, .int .i64 y.day, .int .i64 y.kind, .int .i64 y.of_, .string y.txt, .slice A6 y.n c6] 42)) B0 (.slice A6 y.n c6) Y := HO8.out.low (by have := HB5.out.size; have := HB6.out.size; have := HB0.out; omega)
   have HC9 : Hid (CopP w9 B0 v9 (Zs ++ [(y.at A6 c6, Y)])) := Lib.hid (HC7.out.snoc (p := (y.at A6 c6, Y)) HG9.out HR9.out ⟨HYL.out, HYO.out, hlo⟩)
   have HE9 : Hid ((Zs ++ [(y.at A6 c6, Y)]).map pe = (Xs.take (k + 1)).map pe) := Lib.hid (by rw [List.map_append, HE.out, HTK.out]; rfl)
   have HB9 : Hid (Below B0 w w9) := Lib.hid ((HB5.out.trans ((HB7.out.trans (HBX.out.mono HB7.out.size)).mono (by have := HB5.out.size; have := HB0.out; omega))).trans (grown_below0 HC7.out.row HG9.out (by have := HB5.out.size; have := HB7.out.size; have := HBX.out.size; have := HB0.out; omega)))
   clear hlo
   go_roundg (n - (k + 1))
   case measure => omega
   case rel => exact ⟨k + 1, _, by go_num, by omega, by omega, HC9, HE9, HB9⟩
  ·obtain rfl : k = n := by omega
   have hltz : ¬ (k : Int) < (k : Int) := by omega
   go_wp2_with fail
   go_ret
   have hE9 : Zs.map pe = Xs.map pe := by rw [HE.out, List.take_of_length_le (by rw [HN.out]; exact Nat.le_refl _)]
   exact ⟨by first | exact CopQ.mk HC.out hE9 | (rw [HB0.out]; exact CopQ.mk HC.out hE9), by first | exact HB.out | (rw [HB0.out]; exact HB.out)⟩
set_option maxRecDepth 100000 in
set_option maxHeartbeats 1600000 in
theorem jents_any {M : Nat → Prop} {B : Nat} (j : JD) (w : World) (hj : JK M B w j) (hn : j.n ≤ 100000) : Calls Tryz.prog 10 #[.pointer (some ⟨j.b, 0, none⟩)] w fun e w' => CopQ w.heap.size j.Es e w' ∧ Below w.heap.size w w' := by
 have hA : RowAt lyX w j.A (j.Xs.map (·.1)) := by
  obtain ⟨A', c', e1, hA, -⟩ := hj.row.reads
  injection e1 with e1 _ _
  rw [← e1] at hA
  exact hA
 have HCA := Lib.hid (copall_any j.A j.c j.Xs w hA hj.ets.now (fun p hp => hj.good.ln _ (List.mem_map_of_mem hp)) (by rw [hj.ln]; exact hn))
 rw [hj.ln] at HCA
 have HAL := Lib.hid (all_any j w hj)
 have hEs : j.Es = j.Xs.map pe := rfl
 rw [hEs]
 clear hj hA hEs
 go_enter Tryz.func10, Tryz.ntmps10
 go_wp2_with (first
  | (go_at_call 31; refine HAL.out.mono ?_; rintro e w3 ⟨rfl, rfl⟩)
  | (go_at_call 30; refine HCA.out.mono ?_; rintro e w4 ⟨⟨v, Zs, rfl, h1, h2⟩, hb⟩; have H1 := Lib.hid h1; have H2 := Lib.hid h2; have HB := Lib.hid hb; clear h1 h2 hb))
 go_ret
 exact ⟨CopQ.mk H1.out H2.out, HB.out⟩
open Go.RowKit
def eqB (a b : PE) : Bool := decide (a.id = b.id) && (decide (a.ent = b.ent) && (decide (a.day = b.day) && (decide (a.kind = b.kind) && (decide (a.of_ = b.of_) && (decide (a.txt = b.txt) && decide (a.ls = b.ls))))))
theorem eqB_iff {a b : PE} : eqB a b = true ↔ a = b := by
 unfold eqB
 simp only [Bool.and_eq_true, decide_eq_true_eq]
 constructor
 ·rintro ⟨h1, h2, h3, h4, h5, h6, h7⟩
  cases a; cases b
  simp only at h1 h2 h3 h4 h5 h6 h7
  subst h1 h2 h3 h4 h5 h6 h7
  rfl
 ·rintro rfl
  exact ⟨rfl, rfl, rfl, rfl, rfl, rfl, rfl⟩
theorem eqB_no {a b : PE} (h : a ≠ b) : eqB a b = false := by
 cases hb : eqB a b with
 | false => rfl
 | true => exact absurd (eqB_iff.1 hb) h
theorem bytes_eqL {a b : ByteArray} (h : a.toList = b.toList) : a = b := by
 rw [ByteArray.toList_eq, ByteArray.toList_eq] at h
 cases a; cases b; congr; exact Array.toList_inj.1 h
set_option maxRecDepth 100000 in
set_option maxHeartbeats 6400000 in
theorem r11eq_any (x y : Ety) (X Y : List Lnk) (w : World) (hx : EtyK w x X) (hy : EtyK w y Y) (hxn : x.n ≤ 1000) (hyn : y.n ≤ 1000) : Calls Tryz.prog 21 #[etyV x, etyV y] w fun e w' => e = .returned (.bool (eqB (pe (x, X)) (pe (y, Y)))) ∧ Below w.heap.size w w' := by
 have HSL := Lib.hid (fun W (h : LnkAt W x.A X) (h2 : LnkAt W y.A Y) => rsamel_any x.A y.A x.c y.c X Y W h h2 (by rw [hx.ln]; omega) (by rw [hy.ln]; omega))
 rw [hx.ln, hy.ln] at HSL
 obtain ⟨xs, hxs⟩ : ∃ xs, (etyC x).toArray = xs := ⟨_, rfl⟩
 have hxV : etyV x = .agg xs := by rw [etyV_is, hxs]
 obtain ⟨ys, hys⟩ : ∃ ys, (etyC y).toArray = ys := ⟨_, rfl⟩
 have hyV : etyV y = .agg ys := by rw [etyV_is, hys]
 rw [hxV, hyV]
 obtain ⟨s0, hs0⟩ : ∃ s0, w.heap.size = s0 := ⟨_, rfl⟩
 obtain ⟨w2, hw2⟩ : ∃ w2, (w.alloc (.cells xs 42)).alloc (.cells ys 42) = w2 := ⟨_, rfl⟩
 have HXB : Wh 42 w2 s0 (etyC x) := by rw [← hw2, ← hs0, ← hxs]; exact (Wh.new w _ _).up (below_alloc_new _)
 have HYB : Wh 42 w2 (s0 + 1) (etyC y) := by
  rw [← hw2, ← hs0, ← hys]
  have h9 := Wh.new (w.alloc (.cells xs 42)) 42 (etyC y)
  rw [World.size_alloc] at h9
  exact h9
 have HB2 : Hid (Below w.heap.size w w2) := Lib.hid (by rw [← hw2]; exact below_new (below_alloc_new _) _)
 have HS0 := Lib.hid hs0
 have HXK := Lib.hid (hx.hz.up HB2.out)
 have HYK := Lib.hid (hy.hz.up HB2.out)
 have p0 := HXB.at 0 _ rfl
 have q0 := HYB.at 0 _ rfl
 have p1 := HXB.at 1 _ rfl
 have q1 := HYB.at 1 _ rfl
 have p2 := HXB.at 2 _ rfl
 have q2 := HYB.at 2 _ rfl
 have p3 := HXB.at 3 _ rfl
 have q3 := HYB.at 3 _ rfl
 have p4 := HXB.at 4 _ rfl
 have q4 := HYB.at 4 _ rfl
 have p5 := HXB.at 5 _ rfl
 have q5 := HYB.at 5 _ rfl
 have p6 := HXB.at 6 _ rfl
 have q6 := HYB.at 6 _ rfl
 clear hx hy hxn hyn hxV hyV hxs hys HXB HYB
 by_cases h0 : x.id = y.id
 ·rw [h0] at p0
  by_cases h1 : x.ent = y.ent
  ·rw [h1] at p1
   by_cases h2 : x.day = y.day
   ·rw [h2] at p2
    by_cases h3 : x.kind = y.kind
    ·rw [h3] at p3
     by_cases h4 : x.of_ = y.of_
     ·rw [h4] at p4
      by_cases h5 : x.txt = y.txt
      ·rw [h5] at p5
       have hE : eqB (pe (x, X)) (pe (y, Y)) = decide (X = Y) := by
        unfold eqB pe
        simp [h0, h1, h2, h3, h4, h5]
       rw [hE]
       clear hE h0 h1 h2 h3 h4 h5
       go_enter Tryz.func21, Tryz.ntmps21
       go_wp2_with (go_at_call 45; refine (HSL.out _ HXK.out HYK.out).mono ?_; rintro e w3 ⟨rfl, hb⟩; have HB3 := Lib.hid (HB2.out.trans (hb.mono HB2.out.size)); clear hb)
       go_ret
       exact ⟨by first | rfl | simp, (by have h9 := HB3.out; first | exact h9 | (rw [← HS0.out]; exact h9))⟩
      ·rw [eqB_no (fun e => h5 (congrArg PE.txt e))]
       have hq : (x.txt.toList == y.txt.toList) = false := beq_eq_false_iff_ne.2 (fun e => h5 (bytes_eqL e))
       go_enter Tryz.func21, Tryz.ntmps21
       go_wp2_with fail
       go_ret
       exact ⟨by first | rfl | simp, (by have h9 := HB2.out; first | exact h9 | (rw [← HS0.out]; exact h9))⟩
     ·rw [eqB_no (fun e => h4 (congrArg PE.of_ e))]
      have hq : (x.of_ == y.of_) = false := by simp [h4]
      go_enter Tryz.func21, Tryz.ntmps21
      go_wp2_with fail
      go_ret
      exact ⟨by first | rfl | simp, (by have h9 := HB2.out; first | exact h9 | (rw [← HS0.out]; exact h9))⟩
    ·rw [eqB_no (fun e => h3 (congrArg PE.kind e))]
     have hq : (x.kind == y.kind) = false := by simp [h3]
     go_enter Tryz.func21, Tryz.ntmps21
     go_wp2_with fail
     go_ret
     exact ⟨by first | rfl | simp, (by have h9 := HB2.out; first | exact h9 | (rw [← HS0.out]; exact h9))⟩
   ·rw [eqB_no (fun e => h2 (congrArg PE.day e))]
    have hq : (x.day == y.day) = false := by simp [h2]
    go_enter Tryz.func21, Tryz.ntmps21
    go_wp2_with fail
    go_ret
    exact ⟨by first | rfl | simp, (by have h9 := HB2.out; first | exact h9 | (rw [← HS0.out]; exact h9))⟩
  ·rw [eqB_no (fun e => h1 (congrArg PE.ent e))]
   have hq : (x.ent == y.ent) = false := by simp [h1]
   go_enter Tryz.func21, Tryz.ntmps21
   go_wp2_with fail
   go_ret
   exact ⟨by first | rfl | simp, (by have h9 := HB2.out; first | exact h9 | (rw [← HS0.out]; exact h9))⟩
 ·rw [eqB_no (fun e => h0 (congrArg PE.id e))]
  have hq : (x.id == y.id) = false := by simp [h0]
  go_enter Tryz.func21, Tryz.ntmps21
  go_wp2_with fail
  go_ret
  exact ⟨by first | rfl | simp, (by have h9 := HB2.out; first | exact h9 | (rw [← HS0.out]; exact h9))⟩
instance pe_dec : DecidableEq PE := fun _ _ => decidable_of_iff _ eqB_iff
def smFt (b1 o1 b2 o2 n c d k : Nat) (XV YV : Value) : List (Nat × AK.Fact (Below0)) := [(17, AK.Fact.is (.slice (some ⟨b1, o1, none⟩) n c)), (18, AK.Fact.is (.int .i64 (k : Int))), (19, AK.Fact.is (.pointer (some ⟨b1, o1 + k * 7, none⟩))), (20, AK.Fact.is (XV)), (21, AK.Fact.is (.slice (some ⟨b2, o2, none⟩) n d)), (22, AK.Fact.is (.int .i64 (k : Int))), (23, AK.Fact.is (.pointer (some ⟨b2, o2 + k * 7, none⟩))), (24, AK.Fact.is (YV)), (25, AK.Fact.is (.bool true)), (26, AK.Fact.is (.bool false))]
def smFf (b1 o1 b2 o2 n c d k : Nat) (XV YV : Value) : List (Nat × AK.Fact (Below0)) := [(17, AK.Fact.is (.slice (some ⟨b1, o1, none⟩) n c)), (18, AK.Fact.is (.int .i64 (k : Int))), (19, AK.Fact.is (.pointer (some ⟨b1, o1 + k * 7, none⟩))), (20, AK.Fact.is (XV)), (21, AK.Fact.is (.slice (some ⟨b2, o2, none⟩) n d)), (22, AK.Fact.is (.int .i64 (k : Int))), (23, AK.Fact.is (.pointer (some ⟨b2, o2 + k * 7, none⟩))), (24, AK.Fact.is (YV)), (25, AK.Fact.is (.bool false)), (26, AK.Fact.is (.bool true))]
set_option maxRecDepth 100000 in
set_option maxHeartbeats 6400000 in
theorem r12same_any (A B : Option Addr) (c d : Nat) (Xs Ys : List Etl) (w : World) (hz : RowAt lyX w A (Xs.map (·.1))) (hzs : EtysK w Xs) (hzn : ∀ p ∈ Xs, p.2.length ≤ 1000) (hy : RowAt lyX w B (Ys.map (·.1))) (hys : EtysK w Ys) (hyn : ∀ p ∈ Ys, p.2.length ≤ 1000) (hl : Xs.length ≤ 100000) (hl2 : Ys.length ≤ 100000) :
  Calls Tryz.prog 26 #[.slice A Xs.length c, .slice B Ys.length d] w fun e w' => e = .returned (.bool (decide (Xs.map pe = Ys.map pe))) ∧ Below w.heap.size w w' := by
 have hB := Below.refl w.heap.size w
 obtain ⟨n, hn⟩ : ∃ n, Xs.length = n := ⟨_, rfl⟩
 obtain ⟨m, hm⟩ : ∃ m, Ys.length = m := ⟨_, rfl⟩
 rw [hn] at hl ⊢
 rw [hm] at hl2 ⊢
 have HXN := Lib.hid hn
 have HYN := Lib.hid hm
 have HB0 := Lib.hid hB
 by_cases hnm : n = m
 ·subst hnm
  have HZ := Lib.hid hz
  have HY := Lib.hid hy
  have HZS := Lib.hid hzs
  have HYS := Lib.hid hys
  have HZB := Lib.hid hzn
  have HYB := Lib.hid hyn
  obtain ⟨r, hr⟩ : ∃ r, decide (Xs.map pe = Ys.map pe) = r := ⟨_, rfl⟩
  rw [hr]
  have HR := Lib.hid hr
  clear hn hm hz hy hzs hys hzn hyn hB hr
  go_enter Tryz.func26, Tryz.ntmps26
  go_wp2_with fail
  go_loopg [5] n (fun kx s5 wr => ∃ k : Nat, s5 = .int .i64 k ∧ k ≤ n ∧ n - k ≤ kx ∧ Hid (∀ i, i < k → (Xs.map pe)[i]? = (Ys.map pe)[i]?) ∧ Hid (Below w.heap.size w wr))
  case atStart => exact ⟨0, rfl, by omega, by omega, Lib.hid (fun i h => absurd h (by omega)), HB0⟩
  case round =>
   obtain ⟨k, rfl, hk, hkx, HH, HBW⟩ := hrel
   by_cases hlt : k < n
   ·have hltz : (k : Int) < (n : Int) := by omega
    obtain ⟨p, hp⟩ : ∃ p, Xs[k]? = some p := ⟨_, List.getElem?_eq_getElem (by rw [HXN.out]; exact hlt)⟩
    obtain ⟨q, hq⟩ : ∃ q, Ys[k]? = some q := ⟨_, List.getElem?_eq_getElem (by rw [HYN.out]; exact hlt)⟩
    obtain ⟨x, X⟩ := p
    obtain ⟨y, Y⟩ := q
    have hpe : (Xs.map pe)[k]? = some (pe (x, X)) := by rw [List.getElem?_map, hp]; rfl
    have hqe : (Ys.map pe)[k]? = some (pe (y, Y)) := by rw [List.getElem?_map, hq]; rfl
    have hxk := HZS.out _ (List.mem_of_getElem? hp)
    have hyk := HYS.out _ (List.mem_of_getElem? hq)
    have hxn : x.n ≤ 1000 := by have h1 : X.length ≤ 1000 := HZB.out _ (List.mem_of_getElem? hp); have h2 : X.length = x.n := hxk.ln; omega
    have hyn : y.n ≤ 1000 := by have h1 : Y.length ≤ 1000 := HYB.out _ (List.mem_of_getElem? hq); have h2 : Y.length = y.n := hyk.ln; omega
    obtain ⟨b1, o1, hA, hbl1, hrg1⟩ := HZ.out.at (i := k) (a := x) (by rw [List.getElem?_map, hp]; rfl)
    obtain ⟨b2, o2, hA2, hbl2, hrg2⟩ := HY.out.at (i := k) (a := y) (by rw [List.getElem?_map, hq]; rfl)
    subst hA hA2
    obtain ⟨XV, hXV⟩ : ∃ XV, XV = etyV x := ⟨_, rfl⟩
    obtain ⟨YV, hYV⟩ : ∃ YV, YV = etyV y := ⟨_, rfl⟩
    have HLX : Hid (∀ W, Below wr.heap.size wr W → (Instr.loadAt 42 (.pointer (some ⟨b1, o1 + k * 7, none⟩))).run Tryz.prog W = .ok XV W) := Lib.hid (fun W hW => by rw [hXV]; exact run_loadAt_mid W b1 (o1 + k * 7) 42 (etyC x) _ (fun jj v hv => ((HBW.out.trans (hW.mono HBW.out.size)).cell (p := ⟨b1, o1 + k * 7 + jj, none⟩) hbl1).trans (hrg1 jj v hv)) Tryz.underlying42 rfl (by kernel_rfl))
    have HLY : Hid (∀ W, Below wr.heap.size wr W → (Instr.loadAt 42 (.pointer (some ⟨b2, o2 + k * 7, none⟩))).run Tryz.prog W = .ok YV W) := Lib.hid (fun W hW => by rw [hYV]; exact run_loadAt_mid W b2 (o2 + k * 7) 42 (etyC y) _ (fun jj v hv => ((HBW.out.trans (hW.mono HBW.out.size)).cell (p := ⟨b2, o2 + k * 7 + jj, none⟩) hbl2).trans (hrg2 jj v hv)) Tryz.underlying42 rfl (by kernel_rfl))
    have hQ := fun W (h : Below wr.heap.size wr W) => r11eq_any x y X Y W (hxk.up (HBW.out.trans (h.mono HBW.out.size))) (hyk.up (HBW.out.trans (h.mono HBW.out.size))) hxn hyn
    rw [← hXV, ← hYV] at hQ
    have hPQ : (pe (x, X) = pe (y, Y)) ↔ eqB (pe (x, X)) (pe (y, Y)) = true := eqB_iff.symm
    generalize eqB (pe (x, X)) (pe (y, Y)) = bb at *
    have HQ := Lib.hid hQ
    have HPQ := Lib.hid hPQ
    have HPE := Lib.hid hpe
    have HQE := Lib.hid hqe
    clear hpe hqe hp hq hxk hyk hxn hyn hbl1 hbl2 hrg1 hrg2 hXV hYV hQ hPQ HZ HY HZS HYS HZB HYB
    cases bb
    ·have hrf : r = false := by
      rw [← HR.out]
      refine decide_eq_false fun e => ?_
      have h9 := HPE.out
      rw [e, HQE.out] at h9
      injection h9 with h9
      have := HPQ.out.1 h9.symm
      cases this
     subst hrf
     clear HPQ
     go_wp2_with fail
     refine AK.region_facts (Rp := Below0) (Kp := Below0) (smFf b1 o1 b2 o2 n c d k XV YV) (fun _ _ W => Below wr.heap.size wr W) [[], [], [17, 18], [19], [], [], [21, 22], [23], [20, 24], [25]] [] [[]] [0, 0, 0, 0, 0, 0, 0, 0, 0, 0] [0, 0, 0, 0, 0, 0, 0, 0, 0, 0] [] (fun u => by simp only [smFf, AK.temps, List.map_cons, List.map_nil, fillL, List.setIfInBounds_toArray, List.set_cons_zero, List.set_cons_succ]; rfl) (by kernel_rfl) (by kernel_rfl) (fun _ _ h => h.size) (fun _ _ h => h) (fun _ _ _ _ hb h => h.trans (hb.mono h.size)) (dc_drew (Below.refl _ _)) ?_ ?_
     ·refine AK.sc (lim := 0) (lo := 0) rfl rfl rfl rfl ?_ ?_
      ·intro k_ u w_ hk_ hl_ hJ hF K hK
       clear hF
       go_simp
       exact hK.out _ _ bR (rfl) trivial
      refine AK.sc (lim := 0) (lo := 0) rfl rfl rfl rfl ?_ ?_
      ·intro k_ u w_ hk_ hl_ hJ hF K hK
       clear hF
       go_simp
       exact hK.out _ _ bR (rfl) trivial
      refine AK.sc (lim := 0) (lo := 0) rfl rfl rfl rfl ?_ ?_
      ·intro k_ u w_ hk_ hl_ hJ hF K hK
       have h17 : u 17 = .slice (some ⟨b1, o1, none⟩) n c := AK.facts_get hF 17 (by simp)
       have h18 : u 18 = .int .i64 (k : Int) := AK.facts_get hF 18 (by simp)
       clear hF
       simp only [h17, h18] at hK ⊢
       clear h17 h18
       go_simp
       exact hK.out _ _ bR (rfl) trivial
      refine AK.sc (lim := 0) (lo := 0) rfl rfl rfl rfl ?_ ?_
      ·intro k_ u w_ hk_ hl_ hJ hF K hK
       have h19 : u 19 = .pointer (some ⟨b1, o1 + k * 7, none⟩) := AK.facts_get hF 19 (by simp)
       clear hF
       simp only [h19] at hK ⊢
       clear h19
       refine wp_load_is 42 _ rfl (.pointer (some ⟨b1, o1 + k * 7, none⟩)) rfl XV (HLX.out _ hJ) ?_
       exact hK.out _ _ bR (rfl) trivial
      refine AK.sc (lim := 0) (lo := 0) rfl rfl rfl rfl ?_ ?_
      ·intro k_ u w_ hk_ hl_ hJ hF K hK
       clear hF
       go_simp
       exact hK.out _ _ bR (rfl) trivial
      refine AK.sc (lim := 0) (lo := 0) rfl rfl rfl rfl ?_ ?_
      ·intro k_ u w_ hk_ hl_ hJ hF K hK
       clear hF
       go_simp
       exact hK.out _ _ bR (rfl) trivial
      refine AK.sc (lim := 0) (lo := 0) rfl rfl rfl rfl ?_ ?_
      ·intro k_ u w_ hk_ hl_ hJ hF K hK
       have h21 : u 21 = .slice (some ⟨b2, o2, none⟩) n d := AK.facts_get hF 21 (by simp)
       have h22 : u 22 = .int .i64 (k : Int) := AK.facts_get hF 22 (by simp)
       clear hF
       simp only [h21, h22] at hK ⊢
       clear h21 h22
       go_simp
       exact hK.out _ _ bR (rfl) trivial
      refine AK.sc (lim := 0) (lo := 0) rfl rfl rfl rfl ?_ ?_
      ·intro k_ u w_ hk_ hl_ hJ hF K hK
       have h23 : u 23 = .pointer (some ⟨b2, o2 + k * 7, none⟩) := AK.facts_get hF 23 (by simp)
       clear hF
       simp only [h23] at hK ⊢
       clear h23
       refine wp_load_is 42 _ rfl (.pointer (some ⟨b2, o2 + k * 7, none⟩)) rfl YV (HLY.out _ hJ) ?_
       exact hK.out _ _ bR (rfl) trivial
      refine AK.sc (lim := 0) (lo := 0) rfl rfl rfl rfl ?_ ?_
      ·intro k_ u w_ hk_ hl_ hJ hF K hK
       have h20 : u 20 = XV := AK.facts_get hF 20 (by simp)
       have h24 : u 24 = YV := AK.facts_get hF 24 (by simp)
       clear hF
       simp only [h20, h24] at hK ⊢
       clear h20 h24
       go_simp
       refine (HQ.out _ hJ).mono ?_
       rintro e w3 ⟨rfl, hb⟩
       exact hK.out _ _ hb (rfl) trivial
      refine AK.sc (lim := 0) (lo := 0) rfl rfl rfl rfl ?_ ?_
      ·intro k_ u w_ hk_ hl_ hJ hF K hK
       have h25 : u 25 = .bool false := AK.facts_get hF 25 (by simp)
       clear hF
       simp only [h25] at hK ⊢
       clear h25
       go_simp
       exact hK.out _ _ bR (rfl) trivial
      exact AK.StepsOk.nil
     ·intro u W9 hJ9 hF
      have h26 : u 26 = .bool true := AK.facts_get hF 26 (by simp [smFf, AK.temps])
      clear hF
      simp only [h26]
      clear h26
      go_wp2_with fail
      go_ret
      exact ⟨by first | rfl | simp, HBW.out.trans (hJ9.mono HBW.out.size)⟩
    ·have HH2 : Hid (∀ i, i < k + 1 → (Xs.map pe)[i]? = (Ys.map pe)[i]?) := Lib.hid (fun i hi => by
      rcases Nat.lt_or_ge i k with h | h
      ·exact HH.out i h
      ·obtain rfl : i = k := by omega
       rw [HPE.out, HQE.out, HPQ.out.2 rfl])
     clear HPQ
     go_wp2_with fail
     refine AK.region_facts (Rp := Below0) (Kp := Below0) (smFt b1 o1 b2 o2 n c d k XV YV) (fun _ _ W => Below wr.heap.size wr W) [[], [], [17, 18], [19], [], [], [21, 22], [23], [20, 24], [25]] [] [[]] [0, 0, 0, 0, 0, 0, 0, 0, 0, 0] [0, 0, 0, 0, 0, 0, 0, 0, 0, 0] [] (fun u => by simp only [smFt, AK.temps, List.map_cons, List.map_nil, fillL, List.setIfInBounds_toArray, List.set_cons_zero, List.set_cons_succ]; rfl) (by kernel_rfl) (by kernel_rfl) (fun _ _ h => h.size) (fun _ _ h => h) (fun _ _ _ _ hb h => h.trans (hb.mono h.size)) (dc_drew (Below.refl _ _)) ?_ ?_
     ·refine AK.sc (lim := 0) (lo := 0) rfl rfl rfl rfl ?_ ?_
      ·intro k_ u w_ hk_ hl_ hJ hF K hK
       clear hF
       go_simp
       exact hK.out _ _ bR (rfl) trivial
      refine AK.sc (lim := 0) (lo := 0) rfl rfl rfl rfl ?_ ?_
      ·intro k_ u w_ hk_ hl_ hJ hF K hK
       clear hF
       go_simp
       exact hK.out _ _ bR (rfl) trivial
      refine AK.sc (lim := 0) (lo := 0) rfl rfl rfl rfl ?_ ?_
      ·intro k_ u w_ hk_ hl_ hJ hF K hK
       have h17 : u 17 = .slice (some ⟨b1, o1, none⟩) n c := AK.facts_get hF 17 (by simp)
       have h18 : u 18 = .int .i64 (k : Int) := AK.facts_get hF 18 (by simp)
       clear hF
       simp only [h17, h18] at hK ⊢
       clear h17 h18
       go_simp
       exact hK.out _ _ bR (rfl) trivial
      refine AK.sc (lim := 0) (lo := 0) rfl rfl rfl rfl ?_ ?_
      ·intro k_ u w_ hk_ hl_ hJ hF K hK
       have h19 : u 19 = .pointer (some ⟨b1, o1 + k * 7, none⟩) := AK.facts_get hF 19 (by simp)
       clear hF
       simp only [h19] at hK ⊢
       clear h19
       refine wp_load_is 42 _ rfl (.pointer (some ⟨b1, o1 + k * 7, none⟩)) rfl XV (HLX.out _ hJ) ?_
       exact hK.out _ _ bR (rfl) trivial
      refine AK.sc (lim := 0) (lo := 0) rfl rfl rfl rfl ?_ ?_
      ·intro k_ u w_ hk_ hl_ hJ hF K hK
       clear hF
       go_simp
       exact hK.out _ _ bR (rfl) trivial
      refine AK.sc (lim := 0) (lo := 0) rfl rfl rfl rfl ?_ ?_
      ·intro k_ u w_ hk_ hl_ hJ hF K hK
       clear hF
       go_simp
       exact hK.out _ _ bR (rfl) trivial
      refine AK.sc (lim := 0) (lo := 0) rfl rfl rfl rfl ?_ ?_
      ·intro k_ u w_ hk_ hl_ hJ hF K hK
       have h21 : u 21 = .slice (some ⟨b2, o2, none⟩) n d := AK.facts_get hF 21 (by simp)
       have h22 : u 22 = .int .i64 (k : Int) := AK.facts_get hF 22 (by simp)
       clear hF
       simp only [h21, h22] at hK ⊢
       clear h21 h22
       go_simp
       exact hK.out _ _ bR (rfl) trivial
      refine AK.sc (lim := 0) (lo := 0) rfl rfl rfl rfl ?_ ?_
      ·intro k_ u w_ hk_ hl_ hJ hF K hK
       have h23 : u 23 = .pointer (some ⟨b2, o2 + k * 7, none⟩) := AK.facts_get hF 23 (by simp)
       clear hF
       simp only [h23] at hK ⊢
       clear h23
       refine wp_load_is 42 _ rfl (.pointer (some ⟨b2, o2 + k * 7, none⟩)) rfl YV (HLY.out _ hJ) ?_
       exact hK.out _ _ bR (rfl) trivial
      refine AK.sc (lim := 0) (lo := 0) rfl rfl rfl rfl ?_ ?_
      ·intro k_ u w_ hk_ hl_ hJ hF K hK
       have h20 : u 20 = XV := AK.facts_get hF 20 (by simp)
       have h24 : u 24 = YV := AK.facts_get hF 24 (by simp)
       clear hF
       simp only [h20, h24] at hK ⊢
       clear h20 h24
       go_simp
       refine (HQ.out _ hJ).mono ?_
       rintro e w3 ⟨rfl, hb⟩
       exact hK.out _ _ hb (rfl) trivial
      refine AK.sc (lim := 0) (lo := 0) rfl rfl rfl rfl ?_ ?_
      ·intro k_ u w_ hk_ hl_ hJ hF K hK
       have h25 : u 25 = .bool true := AK.facts_get hF 25 (by simp)
       clear hF
       simp only [h25] at hK ⊢
       clear h25
       go_simp
       exact hK.out _ _ bR (rfl) trivial
      exact AK.StepsOk.nil
     ·intro u W9 hJ9 hF
      have h26 : u 26 = .bool false := AK.facts_get hF 26 (by simp [smFt, AK.temps])
      clear hF
      have HB9 := Lib.hid (HBW.out.trans (hJ9.mono HBW.out.size))
      clear hJ9
      simp only [h26]
      clear h26
      go_wp2_with fail
      go_roundg (n - (k + 1))
      case measure => omega
      case rel => exact ⟨k + 1, by go_num, by omega, by omega, HH2, HB9⟩
   ·obtain rfl : k = n := by omega
    have hltz : ¬ (k : Int) < (k : Int) := by omega
    have hrt : r = true := by
     rw [← HR.out]
     refine decide_eq_true (List.ext_getElem? fun i => ?_)
     rcases Nat.lt_or_ge i k with h | h
     ·exact HH.out i h
     ·rw [List.getElem?_eq_none (by rw [List.length_map, HXN.out]; exact h), List.getElem?_eq_none (by rw [List.length_map, HYN.out]; exact h)]
    subst hrt
    go_wp2_with fail
    go_ret
    exact ⟨by first | rfl | simp, HBW.out⟩
 ·have hnz : ((n : Int) != (m : Int)) = true := by simp; omega
  have hno : decide (Xs.map pe = Ys.map pe) = false := decide_eq_false fun e => hnm (by have h := congrArg List.length e; rw [List.length_map, List.length_map] at h; omega)
  rw [hno]
  have hnn : ¬ (n : Int) = (m : Int) := by omega
  clear hno hz hy hzs hys hzn hyn hB hn hm
  go_enter Tryz.func26, Tryz.ntmps26
  go_wp2_with fail
  go_ret
  exact ⟨by first | rfl | simp, HB0.out⟩
def enP (Es : List PE) (v : Value) (W : World) : Prop := ∃ A c n Zs, v = .slice A n c ∧ Zs.length = n ∧ Zs.map pe = Es ∧ RowAt lyX W A (Zs.map (·.1)) ∧ EtysK W Zs
theorem enP.mk {Es : List PE} {v : Value} {W : World} {B : Nat} {Zs : List Etl} (h : CopP W B v Zs) (he : Zs.map pe = Es) : enP Es v W := by
 obtain ⟨A, c, e, hr, -⟩ := h.row.reads
 exact ⟨A, c, Zs.length, Zs, by rw [e, List.length_map], rfl, he, hr, h.etys⟩
theorem pe_fnd (Xs : List Etl) (id : Int) : pe (fndX Xs id) = (Xs.map pe).getD (idxP (Xs.map pe) id) (pe (ety0, [])) := by
 unfold fndX
 rw [List.getD_eq_getElem?_getD, List.getD_eq_getElem?_getD, List.getElem?_map]
 cases Xs[idxP (Xs.map pe) id]? <;> rfl
theorem fndB_es (Xs : List Etl) (id : Int) : fndB Xs id = decide (idxP (Xs.map pe) id < (Xs.map pe).length) := by
 unfold fndB
 rw [List.length_map]
def linB (l : Option Lnk) : Bool := l.isSome
theorem lineV_is (l : Option Lnk) : lineV l = .tuple #[lnkV (l.getD lnk0), .bool (linB l)] := by cases l <;> rfl
def smFa (bb off n c b7 k : Nat) (YV ZV : Value) : List (Nat × AK.Fact (Below0)) := [(27, AK.Fact.is (.bool true)), (28, AK.Fact.is (.int .i64 (k : Int))), (29, AK.Fact.is (.bool true)), (30, AK.Fact.is (.bool false)), (31, AK.Fact.is (.bool false)), (32, AK.Fact.is (.bool true)), (33, AK.Fact.is (.bool true)), (34, AK.Fact.is (YV)), (35, AK.Fact.is (.slice (some ⟨bb, off, none⟩) n c)), (36, AK.Fact.is (.int .i64 (k : Int))), (37, AK.Fact.is (.pointer (some ⟨bb, off + k * 7, none⟩))), (38, AK.Fact.is (ZV)), (39, AK.Fact.is (.bool true)), (40, AK.Fact.is (.bool false)), (41, AK.Fact.is (.bool false)), (42, AK.Fact.is (.bool false)), (43, AK.Fact.is (.bool false)), (44, AK.Fact.is (.bool true)), (45, AK.Fact.is (.bool false)), (46, AK.Fact.is (.bool false)), (47, AK.Fact.is (undef)), (48, AK.Fact.is (undef)), (49, AK.Fact.is (undef)), (50, AK.Fact.is (undef)), (51, AK.Fact.is (.bool false)), (52, AK.Fact.is (.bool false))]
def smFb (n c b7 : Nat) (A : Option Addr) (YV ZV : Value) : List (Nat × AK.Fact (Below0)) := [(27, AK.Fact.is (.bool false)), (28, AK.Fact.is (.int .i64 (-1))), (29, AK.Fact.is (.bool false)), (30, AK.Fact.is (.bool false)), (31, AK.Fact.is (.bool false)), (32, AK.Fact.is (.bool false)), (33, AK.Fact.is (.bool false)), (34, AK.Fact.is (undef)), (35, AK.Fact.is (undef)), (36, AK.Fact.is (undef)), (37, AK.Fact.is (undef)), (38, AK.Fact.is (undef)), (39, AK.Fact.is (undef)), (40, AK.Fact.is (undef)), (41, AK.Fact.is (.bool false)), (42, AK.Fact.is (.bool false)), (43, AK.Fact.is (.bool false)), (44, AK.Fact.is (.bool false)), (45, AK.Fact.is (.bool true)), (46, AK.Fact.is (.bool true)), (47, AK.Fact.is (YV)), (48, AK.Fact.is (ZV)), (49, AK.Fact.is (.bool true)), (50, AK.Fact.is (.bool false)), (51, AK.Fact.is (.bool false)), (52, AK.Fact.is (.bool false))]
theorem smp_sm (A : Option Addr) (c : Nat) (E : Option Addr) (p0 p1 p2 p3 : EAd) : Sm (smpG A c E) (smpEs p0 p1 p2 p3) := ⟨by show 26 ≤ 60; omega, by show 4 ≤ 14; omega, fun e he => by
 simp [smpEs] at he
 rcases he with rfl | rfl | rfl | rfl <;> exact ⟨by show 14 ≤ 60; omega, by show 14 ≤ 60; omega⟩⟩
theorem smp_w (A : Option Addr) (c : Nat) (E : Option Addr) (p0 p1 p2 p3 : EAd) : GrW (smpG A c E) smpL (smpEs p0 p1 p2 p3) := ⟨by show 3 ≤ maxLen; unfold maxLen; omega, (by
 have h : ((smpG A c E).R.all fun x => (Lit.int .i64 x).wf) = true := by kernel_rfl
 exact fun x hx => List.all_eq_true.1 h x hx), fun e he => by
 simp [smpEs] at he
 rcases he with rfl | rfl | rfl | rfl
 ·exact ⟨by show 6 ≤ maxLen; unfold maxLen; omega, by show 3 ≤ maxLen; unfold maxLen; omega⟩
 ·exact ⟨by show 5 ≤ maxLen; unfold maxLen; omega, by show 3 ≤ maxLen; unfold maxLen; omega⟩
 ·exact ⟨by show 4 ≤ maxLen; unfold maxLen; omega, by show 3 ≤ maxLen; unfold maxLen; omega⟩
 ·exact ⟨by show 5 ≤ maxLen; unfold maxLen; omega, by show 3 ≤ maxLen; unfold maxLen; omega⟩⟩
def ety1 : Ety := ⟨1, 0, 0, 0, 0, ⟨#[]⟩, none, 0, 0⟩
theorem ety1_k (w : World) : EtyK w ety1 [] := ⟨rfl, LnkAt.nil, fun l hl => by cases hl⟩
theorem ety1_chk (g : Grp) (L : List Acc) (G : List Ent) : chkN g ety1 [] L G = 1 := by
 have h1 : hdN g ety1 L G = 1 := by
  unfold hdN
  have h2 : orgB ety1.kind ety1.of_ = false := rfl
  rw [h2]
  simp
 unfold chkN fst6
 rw [h1]
 rfl
theorem ety1_build (w : World) : (Instr.build 42 #[(0, .int .i64 1)]).run Tryz.prog w = .ok (etyV ety1) w := run_build w 42 _ _ (by kernel_rfl)
theorem snew_any (A : Option Addr) (c : Nat) (E : Option Addr) (p0 p1 p2 p3 : EAd) (w : World) (hk : GrK w (smpG A c E) smpL (smpEs p0 p1 p2 p3)) : Calls Tryz.prog 13 #[grpV (smpG A c E)] w fun e w' => (∃ j M B, e = .returned (.tuple #[.pointer (some ⟨j.b, 0, none⟩), .int .i64 0]) ∧ JK M B w' j ∧ j.n = 0) ∧ Below w.heap.size w w' := by
 refine (new_any (smpG A c E) smpL (smpEs p0 p1 p2 p3) w hk (smp_sm A c E p0 p1 p2 p3) (smp_w A c E p0 p1 p2 p3)).mono ?_
 rintro e w' ⟨h, hb⟩
 unfold NewP at h
 rw [smp_ok, if_pos rfl] at h
 obtain ⟨j, M, h1, h2, h3, -, -⟩ := h
 exact ⟨⟨j, M, _, h1, h2, by rw [← h2.ln, h3]; rfl⟩, hb⟩
set_option maxRecDepth 100000 in
set_option maxHeartbeats 6400000 in
theorem jawake_any (w : World) : Calls Tryz.prog 4 #[] w fun e w' => e = .returned (.bool true) ∧ Below w.heap.size w w' := by
 have HN := Lib.hid snew_any
 have HP := Lib.hid (fun (M : Nat → Prop) (B : Nat) (j : JD) (W : World) (h : JK M B W j) => by have h9 := post1_any j ety1 [] W h (ety1_k W) (Nat.zero_le _) (by rw [ety1_chk]; decide); rw [ety1_chk] at h9; exact h9)
 go_enter Tryz.func4, Tryz.ntmps4
 go_upto_region 2 with (first
  | (go_at_call 12; refine (spgrp_any _).mono ?_; rintro e w3 ⟨⟨A, c, E, p0, p1, p2, p3, rfl, hk⟩, hb⟩; have HK3 := Lib.hid hk; have HB3 := Lib.hid hb; clear hk hb; obtain ⟨s3, hs3⟩ : ∃ s3, w3.heap.size = s3 := ⟨_, rfl⟩; have HS3 := Lib.hid hs3)
  | (refine wpList_store_wh rfl 29 _ _ rfl s3 rfl 29 [.string ⟨#[]⟩, .int .i64 0, .int .i64 0, .int .i64 0, .slice none 0 0, .int .i64 0, .int .i64 0, .int .i64 0, .int .i64 0, .int .i64 0, .int .i64 0, .int .i64 0, .int .i64 0, .int .i64 0, .int .i64 0, .int .i64 0, .int .i64 0, .int .i64 0, .int .i64 0, .int .i64 0, .slice none 0 0] (grpC (smpG A c E)) rfl (by rw [← HS3.out]; exact Wh.new w3 29 [.string ⟨#[]⟩, .int .i64 0, .int .i64 0, .int .i64 0, .slice none 0 0, .int .i64 0, .int .i64 0, .int .i64 0, .int .i64 0, .int .i64 0, .int .i64 0, .int .i64 0, .int .i64 0, .int .i64 0, .int .i64 0, .int .i64 0, .int .i64 0, .int .i64 0, .int .i64 0, .int .i64 0, .slice none 0 0]) rfl (by kernel_rfl) (by kernel_rfl) ?_; intro w5 hr5 ho5 hz5; have HG5 := Lib.hid hr5.out; have hb5 : Below w3.heap.size w3 w5 := only_new (by rw [HS3.out]; exact ho5.out); have HK5 := Lib.hid (HK3.out.up hb5); have HB5 := Lib.hid (HB3.out.trans (hb5.mono HB3.out.size)); clear hr5 ho5 hz5 hb5 hs3 HK3 HB3))
 have HLG : Hid ((Instr.loadAt 29 (.pointer (some ⟨s3, 0, none⟩))).run Tryz.prog w5 = .ok (grpV (smpG A c E)) w5) := Lib.hid (by rw [grpV_is]; exact HG5.out.rg.load 0 29 (grpC (smpG A c E)) rfl _ Tryz.underlying29 rfl (by kernel_rfl))
 obtain ⟨GV, hGV⟩ : ∃ GV, GV = grpV (smpG A c E) := ⟨_, rfl⟩
 rw [← hGV] at HLG
 have HGV := Lib.hid hGV
 clear hGV
 go_wp2_with (first
  | (refine wpList_load_is rfl 29 _ rfl (.pointer (some ⟨s3, 0, none⟩)) rfl GV HLG.out ?_)
  | (go_at_call 13; rw [HGV.out]; refine (HN.out A c E p0 p1 p2 p3 _ HK5.out).mono ?_; rintro e w6 ⟨⟨j, M, B, rfl, hj, hj0⟩, hb⟩; have HJ6 := Lib.hid hj; have hn0 : j.n = 0 := hj0; have HB6 := Lib.hid (HB5.out.trans (hb.mono HB5.out.size)); clear hj hb hj0)
  | (refine wpList_build_is rfl 42 _ rfl [(0, .int .i64 1)] rfl (etyV ety1) (ety1_build _) ?_)
  | (go_at_call 9; refine (HP.out M B j _ HJ6.out).mono ?_; rintro e w7 ⟨rfl, hb⟩; have HJ7 := Lib.hid (HJ6.out.up hb); have HB7 := Lib.hid (HB6.out.trans (hb.mono HB6.out.size)); clear hb HJ6 HB6)
  | (go_at_call 14; refine (jlen_any j _ HJ7.out).mono ?_; rintro e w8 ⟨rfl, rfl⟩; rw [hn0]))
 go_ret
 exact ⟨rfl, HB7.out⟩
open Go.ChangeShapes Go.WideShapes Go.ChangeAt Go.WideMaps Go.WideElems Go.RowKit Go.Deep Go.Joins
section
variable {H : Type} {enc : TypeId × Value → H} {P : Program} {W : World}
theorem open_nums {E I : TypeId} {fs : Array Field} {fuel : Nat} {cs : List Value} {x : DataW H × List MemPlace} (hE : P.underlying E = some (.struct fs))
  (hone : oneCellFields P fs = true) (hty : (fs.toList.all fun f => f.type == I) = true) (hI : P.underlying I = some (.int .i64))
  (hl : cs.length = fs.size) (h2 : DataW.trod enc P W 0 (fun _ => true) true fuel E cs = some x) :
  ∀ j, j < fs.size → ∃ z : Int, cs[j]? = some (.int .i64 z) ∧ (Lit.int .i64 z).wf = true := by
 intro j hj
 obtain ⟨xs, n', -, -, -, hxl, hff⟩ := DataW.trod_struct hE h2
 have hfj : fs[j]? = some fs[j] := Array.getElem?_eq_getElem hj
 obtain ⟨ho, hk1⟩ := hone_of hone j _ hfj
 have ht : fs[j].type = I := by
  have := List.all_eq_true.1 hty fs[j] (by simp)
  simpa using this
 have hxj : xs[j]? = some (xs[j]'(by omega)) := List.getElem?_eq_getElem (by omega)
 have h3 := hff j _ hfj
 rw [ho, hk1, ht, hxj] at h3
 obtain ⟨z, hz, -, hw⟩ := DataW.trod_int hI h3
 refine ⟨z, ?_, hw⟩
 have h5 : (cs.drop j).take 1 = [cs[j]'(by omega)] := by
  rw [List.drop_eq_getElem_cons (by omega)]; rfl
 rw [h5] at hz
 rw [List.getElem?_eq_getElem (by omega)]
 injection hz with hz
 rw [hz]
end
theorem cells21 {cs : List Value} (h : cs.length = 21) : ∃ c0 c1 c2 c3 c4 c5 c6 c7 c8 c9 c10 c11 c12 c13 c14 c15 c16 c17 c18 c19 c20, cs = [c0, c1, c2, c3, c4, c5, c6, c7, c8, c9, c10, c11, c12, c13, c14, c15, c16, c17, c18, c19, c20] := by
 match cs, h with
 | [c0, c1, c2, c3, c4, c5, c6, c7, c8, c9, c10, c11, c12, c13, c14, c15, c16, c17, c18, c19, c20], _ => exact ⟨c0, c1, c2, c3, c4, c5, c6, c7, c8, c9, c10, c11, c12, c13, c14, c15, c16, c17, c18, c19, c20, rfl⟩
section
variable {H : Type} {enc : TypeId × Value → H} {W : World}
set_option maxRecDepth 100000 in
theorem open_igrp {b0 : Nat} {v : Value} {d : DataW H} {p : List MemPlace} (hval : Value.okWide Tryz.prog W .any b0 29 v) (h : DataW.Trod enc Tryz.prog W 0 (fun _ => true) true 29 v d p) :
  ∃ g L G, v = grpV g ∧ GrK W g L G ∧ GrW g L G ∧ g.m ≤ 9223372036854775807 := by
 obtain ⟨cs, rfl, hsz⟩ := okWide_struct Tryz.underlying29 hval
 obtain ⟨fuel, hf⟩ := h
 have hcs : (Value.agg cs).cells.toList = cs.toList := by simp [Value.cells]
 rw [hcs] at hf
 obtain ⟨xs, n', -, -, hlen, hxl, hff⟩ := DataW.trod_struct Tryz.underlying29 hf
 have hC : Tryz.prog.cellsOf 29 = 21 := by kernel_rfl
 rw [hC] at hlen
 obtain ⟨c0, c1, c2, c3, c4, c5, c6, c7, c8, c9, c10, c11, c12, c13, c14, c15, c16, c17, c18, c19, c20, e21⟩ := cells21 hlen
 have k9 : Tryz.prog.cellsOf 9 = 1 := by kernel_rfl
 have kc : Tryz.prog.cellsOf 23 = 3 := by kernel_rfl
 have ka : Tryz.prog.cellsOf 24 = 1 := by kernel_rfl
 have kr : Tryz.prog.cellsOf 26 = 15 := by kernel_rfl
 have ke : Tryz.prog.cellsOf 27 = 1 := by kernel_rfl
 have hxl' : xs.length = 5 := hxl
 have hget : ∀ i, i < 5 → ∃ y, xs[i]? = some y := fun i hi => ⟨_, List.getElem?_eq_getElem (by omega)⟩
 have h0 : DataW.trod enc Tryz.prog W 0 (fun _ => true) true n' 9 ((cs.toList.drop 0).take (Tryz.prog.cellsOf 9)) = xs[0]? := hff 0 _ rfl
 have h1 : DataW.trod enc Tryz.prog W 0 (fun _ => true) true n' 23 ((cs.toList.drop 1).take (Tryz.prog.cellsOf 23)) = xs[1]? := hff 1 _ rfl
 have h2 : DataW.trod enc Tryz.prog W 0 (fun _ => true) true n' 24 ((cs.toList.drop 4).take (Tryz.prog.cellsOf 24)) = xs[2]? := hff 2 _ rfl
 have h3 : DataW.trod enc Tryz.prog W 0 (fun _ => true) true n' 26 ((cs.toList.drop 5).take (Tryz.prog.cellsOf 26)) = xs[3]? := hff 3 _ rfl
 have h4 : DataW.trod enc Tryz.prog W 0 (fun _ => true) true n' 27 ((cs.toList.drop 20).take (Tryz.prog.cellsOf 27)) = xs[4]? := hff 4 _ rfl
 obtain ⟨y0, e0⟩ := hget 0 (by omega)
 obtain ⟨y1, e1⟩ := hget 1 (by omega)
 obtain ⟨y2, e2⟩ := hget 2 (by omega)
 obtain ⟨y3, e3⟩ := hget 3 (by omega)
 obtain ⟨y4, e4⟩ := hget 4 (by omega)
 rw [e0, k9, e21] at h0
 rw [e1, kc, e21] at h1
 rw [e2, ka, e21] at h2
 rw [e3, kr, e21] at h3
 rw [e4, ke, e21] at h4
 have n1 := open_nums (cs := [c1, c2, c3]) Tryz.underlying23 (by kernel_rfl) (by kernel_rfl) Tryz.underlying3 rfl h1
 have n3 := open_nums (cs := [c5, c6, c7, c8, c9, c10, c11, c12, c13, c14, c15, c16, c17, c18, c19]) Tryz.underlying26 (by kernel_rfl) (by kernel_rfl) Tryz.underlying3 rfl h3
 obtain ⟨cur, q0, -, bc⟩ := DataW.trod_string Tryz.underlying9 h0
 obtain ⟨A, n, c, L, q4, ln, -, hz, wa⟩ := open_waccs Tryz.underlying24 Tryz.underlying91 (by kernel_rfl) (by kernel_rfl) (by kernel_rfl) Tryz.underlying3 h2
 obtain ⟨X, m, cap, G, q20, lg, hmx, he, hk, hb⟩ := open_entsC Tryz.underlying27 h4
 obtain ⟨z1, p1, -⟩ := n1 0 (by decide)
 obtain ⟨z2, p2, -⟩ := n1 1 (by decide)
 obtain ⟨z3, p3, -⟩ := n1 2 (by decide)
 obtain ⟨r0, s0, w0⟩ := n3 0 (by decide)
 obtain ⟨r1, s1, w1⟩ := n3 1 (by decide)
 obtain ⟨r2, s2, w2⟩ := n3 2 (by decide)
 obtain ⟨r3, s3, w3⟩ := n3 3 (by decide)
 obtain ⟨r4, s4, w4⟩ := n3 4 (by decide)
 obtain ⟨r5, s5, w5⟩ := n3 5 (by decide)
 obtain ⟨r6, s6, w6⟩ := n3 6 (by decide)
 obtain ⟨r7, s7, w7⟩ := n3 7 (by decide)
 obtain ⟨r8, s8, w8⟩ := n3 8 (by decide)
 obtain ⟨r9, s9, w9⟩ := n3 9 (by decide)
 obtain ⟨r10, s10, w10⟩ := n3 10 (by decide)
 obtain ⟨r11, s11, w11⟩ := n3 11 (by decide)
 obtain ⟨r12, s12, w12⟩ := n3 12 (by decide)
 obtain ⟨r13, s13, w13⟩ := n3 13 (by decide)
 obtain ⟨r14, s14, w14⟩ := n3 14 (by decide)
 have a0 : c0 = .string cur := by simpa using q0
 have a4 : c4 = .slice A n c := by simpa using q4
 have a20 : c20 = .slice X m cap := by simpa using q20
 have b1 : c1 = .int .i64 z1 := by simpa using p1
 have b2 : c2 = .int .i64 z2 := by simpa using p2
 have b3 : c3 = .int .i64 z3 := by simpa using p3
 have t0 : c5 = .int .i64 r0 := by simpa using s0
 have t1 : c6 = .int .i64 r1 := by simpa using s1
 have t2 : c7 = .int .i64 r2 := by simpa using s2
 have t3 : c8 = .int .i64 r3 := by simpa using s3
 have t4 : c9 = .int .i64 r4 := by simpa using s4
 have t5 : c10 = .int .i64 r5 := by simpa using s5
 have t6 : c11 = .int .i64 r6 := by simpa using s6
 have t7 : c12 = .int .i64 r7 := by simpa using s7
 have t8 : c13 = .int .i64 r8 := by simpa using s8
 have t9 : c14 = .int .i64 r9 := by simpa using s9
 have t10 : c15 = .int .i64 r10 := by simpa using s10
 have t11 : c16 = .int .i64 r11 := by simpa using s11
 have t12 : c17 = .int .i64 r12 := by simpa using s12
 have t13 : c18 = .int .i64 r13 := by simpa using s13
 have t14 : c19 = .int .i64 r14 := by simpa using s14
 subst a0 a4 a20 b1 b2 b3 t0 t1 t2 t3 t4 t5 t6 t7 t8 t9 t10 t11 t12 t13 t14
 refine ⟨⟨cur, z1, z2, z3, A, n, c, r0, r1, r2, r3, r4, r5, r6, r7, r8, r9, r10, r11, r12, r13, r14, X, m, cap⟩, L, G, ?_, ⟨ln, lg, hz, he, hk⟩, ⟨bc, fun x hx => ?_, hb⟩, hmx⟩
 ·rw [← Array.toArray_toList (xs := cs), e21]
 ·simp only [Grp.R, List.mem_cons, List.mem_nil_iff, or_false] at hx
  rcases hx with rfl | rfl | rfl | rfl | rfl | rfl | rfl | rfl | rfl | rfl | rfl | rfl | rfl | rfl | rfl
  ·exact w0
  ·exact w1
  ·exact w2
  ·exact w3
  ·exact w4
  ·exact w5
  ·exact w6
  ·exact w7
  ·exact w8
  ·exact w9
  ·exact w10
  ·exact w11
  ·exact w12
  ·exact w13
  ·exact w14
end
open Go.ChangeShapes Go.WideShapes Go.ChangeAt Go.WideMaps Go.WideElems Go.RowKit Go.Deep Go.Joins
theorem open_wlineK {H : Type} {enc : TypeId × Value → H} {W : World} {fuel : Nat} {cs : List Value} {x : DataW H × List MemPlace} (hf : DataW.trod enc Tryz.prog W 0 (fun _ => true) true fuel 40 cs = some x) :
  ∃ A len cap K, cs = [.slice A len cap] ∧ K.length = len ∧ len ≤ 9223372036854775807 ∧ LnkAt W A K ∧ ∀ l ∈ K, okK (kOf l) ∧ (Lit.int .i64 l.tgt).wf = true := by
 obtain ⟨A, len, cap, K, hcs, hlen, hmax, hz, hw⟩ := open_wlnks Tryz.underlying40 Tryz.underlying46 (by kernel_rfl) (by kernel_rfl) (by kernel_rfl) Tryz.underlying3 hf
 exact ⟨A, len, cap, K, hcs, hlen, hmax, hz, fun l hl => ⟨⟨(hw l hl).frm, (hw l hl).since⟩, (hw l hl).tgt⟩⟩
theorem cellsE7 {cs : List Value} (h : cs.length = 7) : ∃ c0 c1 c2 c3 c4 c5 c6, cs = [c0, c1, c2, c3, c4, c5, c6] := by
 match cs, h with
 | [c0, c1, c2, c3, c4, c5, c6], _ => exact ⟨c0, c1, c2, c3, c4, c5, c6, rfl⟩
section
variable {H : Type} {enc : TypeId × Value → H} {W : World}
end
open Go.ChangeShapes Go.WideShapes Go.ChangeAt Go.WideMaps Go.WideElems Go.RowKit Go.Deep Go.Joins
theorem list_of_all {α : Type} {S : Nat → α → Prop} : ∀ n : Nat, (∀ k, k < n → ∃ a, S k a) → ∃ L : List α, L.length = n ∧ ∀ k, k < n → ∃ a, L[k]? = some a ∧ S k a
 | 0, _ => ⟨[], rfl, fun k h => absurd h (by omega)⟩
 | n + 1, h => by
  obtain ⟨L, hl, hL⟩ := list_of_all n fun k hk => h k (by omega)
  obtain ⟨a, ha⟩ := h n (by omega)
  refine ⟨L ++ [a], by simp [hl], fun k hk => ?_⟩
  rcases Nat.lt_or_ge k n with h1 | h1
  ·obtain ⟨b, hb, hs⟩ := hL k h1
   exact ⟨b, by rw [List.getElem?_append_left (by omega)]; exact hb, hs⟩
  ·obtain rfl : k = n := by omega
   exact ⟨a, by rw [List.getElem?_append_right (by omega), hl]; simp, ha⟩
section
variable {H : Type} {enc : TypeId × Value → H} {P : Program} {W : World}
end
structure EtyW (x : Ety) : Prop where
 id : (Lit.int .i64 x.id).wf = true
 ent : (Lit.int .i64 x.ent).wf = true
 day : (Lit.int .i64 x.day).wf = true
 kind : (Lit.int .i64 x.kind).wf = true
 of_ : (Lit.int .i64 x.of_).wf = true
section
variable {H : Type} {enc : TypeId × Value → H} {W : World}
set_option maxRecDepth 100000 in
theorem open_etyC {fuel : Nat} {cs : List Value} {x : DataW H × List MemPlace} (hf : DataW.trod enc Tryz.prog W 0 (fun _ => true) true fuel 42 cs = some x) : ∃ a : Ety × List Lnk, cs = etyC a.1 ∧ EtyK W a.1 a.2 ∧ a.1.n ≤ 9223372036854775807 ∧ a.1.txt.size ≤ maxLen ∧ EtyW a.1 := by
 obtain ⟨xs, n', -, -, hlen, hxl, hff⟩ := DataW.trod_struct Tryz.underlying42 hf
 have hC : Tryz.prog.cellsOf 42 = 7 := by kernel_rfl
 rw [hC] at hlen
 obtain ⟨c0, c1, c2, c3, c4, c5, c6, e7⟩ := cellsE7 hlen
 have hxl' : xs.length = 7 := hxl
 have hget : ∀ i, i < 7 → ∃ y, xs[i]? = some y := fun i hi => ⟨_, List.getElem?_eq_getElem (by omega)⟩
 have ki : Tryz.prog.cellsOf 3 = 1 := by kernel_rfl
 have kl : Tryz.prog.cellsOf 40 = 1 := by kernel_rfl
 have ks : Tryz.prog.cellsOf 9 = 1 := by kernel_rfl
 have h0 : DataW.trod enc Tryz.prog W 0 (fun _ => true) true n' 3 ((cs.drop 0).take (Tryz.prog.cellsOf 3)) = xs[0]? := hff 0 _ rfl
 obtain ⟨y0, e0⟩ := hget 0 (by omega)
 rw [e0, ki, e7] at h0
 have h1 : DataW.trod enc Tryz.prog W 0 (fun _ => true) true n' 3 ((cs.drop 1).take (Tryz.prog.cellsOf 3)) = xs[1]? := hff 1 _ rfl
 obtain ⟨y1, e1⟩ := hget 1 (by omega)
 rw [e1, ki, e7] at h1
 have h2 : DataW.trod enc Tryz.prog W 0 (fun _ => true) true n' 3 ((cs.drop 2).take (Tryz.prog.cellsOf 3)) = xs[2]? := hff 2 _ rfl
 obtain ⟨y2, e2⟩ := hget 2 (by omega)
 rw [e2, ki, e7] at h2
 have h3 : DataW.trod enc Tryz.prog W 0 (fun _ => true) true n' 3 ((cs.drop 3).take (Tryz.prog.cellsOf 3)) = xs[3]? := hff 3 _ rfl
 obtain ⟨y3, e3⟩ := hget 3 (by omega)
 rw [e3, ki, e7] at h3
 have h4 : DataW.trod enc Tryz.prog W 0 (fun _ => true) true n' 3 ((cs.drop 4).take (Tryz.prog.cellsOf 3)) = xs[4]? := hff 4 _ rfl
 obtain ⟨y4, e4⟩ := hget 4 (by omega)
 rw [e4, ki, e7] at h4
 have h5 : DataW.trod enc Tryz.prog W 0 (fun _ => true) true n' 9 ((cs.drop 5).take (Tryz.prog.cellsOf 9)) = xs[5]? := hff 5 _ rfl
 obtain ⟨y5, e5⟩ := hget 5 (by omega)
 rw [e5, ks, e7] at h5
 have h6 : DataW.trod enc Tryz.prog W 0 (fun _ => true) true n' 40 ((cs.drop 6).take (Tryz.prog.cellsOf 40)) = xs[6]? := hff 6 _ rfl
 obtain ⟨y6, e6⟩ := hget 6 (by omega)
 rw [e6, kl, e7] at h6
 obtain ⟨z0, q0, -, w0⟩ := DataW.trod_int Tryz.underlying3 h0
 have a0 : c0 = .int .i64 z0 := by simpa using q0
 obtain ⟨z1, q1, -, w1⟩ := DataW.trod_int Tryz.underlying3 h1
 have a1 : c1 = .int .i64 z1 := by simpa using q1
 obtain ⟨z2, q2, -, w2⟩ := DataW.trod_int Tryz.underlying3 h2
 have a2 : c2 = .int .i64 z2 := by simpa using q2
 obtain ⟨z3, q3, -, w3⟩ := DataW.trod_int Tryz.underlying3 h3
 have a3 : c3 = .int .i64 z3 := by simpa using q3
 obtain ⟨z4, q4, -, w4⟩ := DataW.trod_int Tryz.underlying3 h4
 have a4 : c4 = .int .i64 z4 := by simpa using q4
 obtain ⟨z5, q5, -, bt⟩ := DataW.trod_string Tryz.underlying9 h5
 have a5 : c5 = .string z5 := by simpa using q5
 obtain ⟨A, n, c, X, q6, lx, hmx, hz, ok⟩ := open_wlineK h6
 have a6 : c6 = .slice A n c := by simpa using q6
 subst a0 a1 a2 a3 a4 a5 a6
 exact ⟨(⟨z0, z1, z2, z3, z4, z5, A, n, c⟩, X), e7, ⟨lx, hz, ok⟩, hmx, bt, ⟨w0, w1, w2, w3, w4⟩⟩
end
section
variable {H : Type} {enc : TypeId × Value → H} {P : Program} {w : World} {r : Reach} {b0 base : Nat} {t e : TypeId} {k : IntKind} {spare : Nat → Bool} {held : Bool} {v : Value} {d : DataW H} {ps : List MemPlace}
end
open Go.RowKit
theorem few_is {g : Grp} {G : List Ent} {Xs : List Etl} (h : (fewX Xs && few10 g G) = true) : Sm g G ∧ Xs.length ≤ 61 ∧ ∀ p ∈ Xs, p.1.n ≤ 60 := by
 rw [Bool.and_eq_true] at h
 obtain ⟨h1, h2⟩ := h
 unfold fewX at h1
 rw [Bool.and_eq_true, decide_eq_true_eq] at h1
 refine ⟨few_sm h2, h1.2, fun p hp => ?_⟩
 have h3 := List.all_eq_true.1 h1.1 p hp
 unfold fewE at h3
 simp only [Bool.and_eq_true, Bool.not_eq_true', Bool.or_eq_false_iff, decide_eq_false_iff_not] at h3
 omega
end Go.Proofs.YtacmccijnkojeaaGreat
namespace Go.Proofs
open Go.Shelf
def Tryz.mapc18_ren : Go.Shelf.Ren := ⟨fun | 5 => 18 | 7 => 43 | n => n, fun | 23 => 55 | 25 => 3 | 3 => 3 | 4 => 4 | 20 => 20 | n => n, fun | n => n⟩
theorem Tryz.mapc18 : Go.Proofs.SlLaysW.n5 Tryz.prog Tryz.mapc18_ren := {
 mixed := by kernel_rfl
 f5 := ⟨Tryz.f18.name, by decide, Tryz.func18.trans (congrArg some (by kernel_rfl))⟩
 f7 := Tryz.func43.trans (congrArg some (by kernel_rfl))
 t4 := Tryz.underlying4
 a4 := Tryz.isAgg4
 z4 := Tryz.sizeOf4
 v4 := Tryz.zeroValue4
 t20 := Tryz.underlying20
 a20 := Tryz.isAgg20
 z20 := Tryz.sizeOf20
 v20 := Tryz.zeroValue20
 t23 := Tryz.underlying55
 a23 := Tryz.isAgg55
 z23 := Tryz.sizeOf55
 v23 := Tryz.zeroValue55 }
end Go.Proofs
namespace Go.Proofs.YtacmccijnkojeaaGreat
open Go.RowKit Go.Maps Go.Shelf
theorem wp_box_c {P : Program} {o : Oper} {a : Act} {w : World} {K : Act → World → Prop} {Q : Exit → Act → World → Prop} (ty : TypeId) (x : Operand) (hop : o.op = .box ty x) (cs : List Value) (hx : a.eval x = .agg cs.toArray)
  (h : K (a.put o.dst (.pointer (some ⟨w.heap.size, 0, none⟩))) (w.alloc (.cells cs.toArray ty))) : Oper.wp P o a w K Q := by
 have hrun : (Instr.box ty (.agg cs.toArray)).run P w = .ok (.pointer (some ⟨w.heap.size, 0, none⟩)) (w.alloc (.cells cs.toArray ty)) := by
  simp [Instr.box, newVar, newRow, Value.cells]
 unfold Oper.wp execOp
 simp only [hop, hx, Sem.run_bind, hrun, Sem.run_pure, Result.andThen_ok]
 exact h
set_option maxRecDepth 100000 in
theorem jn_buildC (g : Grp) (A : Option Addr) (n c a b : Nat) (w : World) : (Instr.build 57 #[(0, grpV g), (1, .slice A n c), (2, .map (some a)), (3, .map (some b))]).run Tryz.prog w = .ok (.agg (jnC g (.slice A n c) a b).toArray) w :=
 run_build w 57 _ _ (by kernel_rfl)
theorem mapvc_any (w : World) (b n : Nat) (f : Int → Option Value) (h : MapV w b n f) : Calls Tryz.prog 18 #[.map (some b)] w fun e w' => e = .returned (.map (some w.heap.size)) ∧ MapV w' w.heap.size n f ∧ Below w.heap.size w w' := by
 obtain ⟨D, h1, h2⟩ := h
 have hcon := AnyW.maps_Clone_owns Tryz.mapc18 3 heldE b n D w h1
 change Calls Tryz.prog 18 _ _ _ at hcon
 exact hcon.mono fun e w' ⟨he, h3, _, hb⟩ => ⟨he, ⟨D, h3, h2⟩, hb⟩
def jcP13 (j : JD) (s : Nat) (v : Value) (w : World) : Prop := ∃ A c, v = .slice A j.n c ∧ OwnR lyX 42 w s (.slice A j.n c) (j.Xs.map (·.1))
def jcF13 (j : JD) (s : Nat) : AK.Fact Below0 := ⟨jcP13 j s, fun _ _ _ hb ⟨A, c, h1, h2⟩ => ⟨A, c, h1, h2.up hb⟩⟩
def jcM (j : JD) (s : Nat) (A : Option Addr) (c b1 b2 : Nat) (w : World) : Prop := s ≤ b1 ∧ s ≤ b2 ∧ b1 ≠ b2 ∧ MapV w b1 j.n (idxF j.Es) ∧ MapV w b2 j.n (revF j.Es) ∧ OwnR lyX 42 w s (.slice A j.n c) (j.Xs.map (·.1))
theorem jcM.up {j : JD} {s : Nat} {A : Option Addr} {c b1 b2 : Nat} {w w' : World} (h : jcM j s A c b1 b2 w) (hb : Below w.heap.size w w') : jcM j s A c b1 b2 w' := ⟨h.1, h.2.1, h.2.2.1, h.2.2.2.1.up hb, h.2.2.2.2.1.up hb, h.2.2.2.2.2.up hb⟩
def jcP24 (j : JD) (s : Nat) (v : Value) (w : World) : Prop := ∃ A c b1 b2, v = .agg (jnC j.g (.slice A j.n c) b1 b2).toArray ∧ jcM j s A c b1 b2 w
def jcF24 (j : JD) (s : Nat) : AK.Fact Below0 := ⟨jcP24 j s, fun _ _ _ hb ⟨A, c, b1, b2, h1, h2⟩ => ⟨A, c, b1, b2, h1, h2.up hb⟩⟩
def jcP25 (j : JD) (s : Nat) (v : Value) (w : World) : Prop := ∃ p A c b1 b2, v = .pointer (some ⟨p, 0, none⟩) ∧ s ≤ p ∧ Wh 57 w p (jnC j.g (.slice A j.n c) b1 b2) ∧ jcM j s A c b1 b2 w
def jcF25 (j : JD) (s : Nat) : AK.Fact Below0 := ⟨jcP25 j s, fun _ _ _ hb ⟨p, A, c, b1, b2, h1, h0, h3, h2⟩ => ⟨p, A, c, b1, b2, h1, h0, h3.up hb, h2.up hb⟩⟩
def jcE (j : JD) (w W : World) : Nat → List Value → Prop
 | 0, _ => True
 | 1, l => ∀ v, l = [v] → ∃ b, v = .map (some b) ∧ w.heap.size ≤ b ∧ MapV W b j.n (idxF j.Es)
 | _, l => ∀ v v', l = [v, v'] → ∃ b b', v = .map (some b) ∧ v' = .map (some b') ∧ w.heap.size ≤ b ∧ w.heap.size ≤ b' ∧ b ≠ b' ∧ MapV W b j.n (idxF j.Es) ∧ MapV W b' j.n (revF j.Es)
def jcJ (j : JD) (w : World) (k : Nat) (l : List Value) (W : World) : Prop := Below w.heap.size w W ∧ jcE j w W k l
theorem jcJ.st (j : JD) (w : World) (k : Nat) (l : List Value) (W W' : World) (hb : Below W.heap.size W W') (h : jcJ j w k l W) : jcJ j w k l W' := by
 refine ⟨h.1.trans (hb.mono h.1.size), ?_⟩
 match k, h.2 with
 | 0, _ => trivial
 | 1, h2 => exact fun v hv => by obtain ⟨b, h3, h4, h5⟩ := h2 v hv; exact ⟨b, h3, h4, h5.up hb⟩
 | _ + 2, h2 => exact fun v v' hv => by obtain ⟨b, b', h3, h4, h5, h6, h7, h8, h9⟩ := h2 v v' hv; exact ⟨b, b', h3, h4, h5, h6, h7, h8.up hb, h9.up hb⟩
def jcL (j : JD) (w : World) : List (Nat × AK.Fact (Below0)) := [(5, AK.Fact.is (.pointer (some ⟨j.b, 0, none⟩))), (6, AK.Fact.is (.pointer (some ⟨j.b, 0, none⟩))), (7, AK.Fact.is (.pointer (some ⟨j.b, 0, none⟩))), (8, AK.Fact.is (grpV j.g)), (9, AK.Fact.is (.pointer (some ⟨j.b, 0, none⟩))), (10, AK.Fact.is (.pointer (some ⟨j.b, 0, none⟩))), (11, AK.Fact.is (.pointer (some ⟨j.b, 21, none⟩))), (12, AK.Fact.is (.slice j.A j.n j.c)), (13, jcF13 j w.heap.size), (14, AK.Fact.is (.pointer (some ⟨j.b, 0, none⟩))), (15, AK.Fact.is (.pointer (some ⟨j.b, 0, none⟩))), (16, AK.Fact.is (.pointer (some ⟨j.b, 22, none⟩))), (17, AK.Fact.is (.map (some j.bi))), (18, AK.Fact.triv), (19, AK.Fact.is (.pointer (some ⟨j.b, 0, none⟩))), (20, AK.Fact.is (.pointer (some ⟨j.b, 0, none⟩))), (21, AK.Fact.is (.pointer (some ⟨j.b, 23, none⟩))), (22, AK.Fact.is (.map (some j.br))), (23, AK.Fact.triv), (24, jcF24 j w.heap.size), (25, jcF25 j w.heap.size), (2, jcF25 j w.heap.size)]
def JClQ (w : World) (j : JD) (e : Ending) (w' : World) : Prop := ∃ p A c b1 b2, e = .returned (.pointer (some ⟨p, 0, none⟩)) ∧ w.heap.size ≤ p ∧ Wh 57 w' p (jnC j.g (.slice A j.n c) b1 b2) ∧ jcM j w.heap.size A c b1 b2 w'
set_option maxRecDepth 100000 in
set_option maxHeartbeats 6400000 in
theorem jclone_any {M : Nat → Prop} {B : Nat} (j : JD) (w : World) (h : JK M B w j) (hn : j.n ≤ 2000) : Calls Tryz.prog 7 #[.pointer (some ⟨j.b, 0, none⟩)] w fun e w' => JClQ w j e w' ∧ Below w.heap.size w w' := by
 have HBX := Lib.hid h.box
 have HLG : Hid (∀ W, Below w.heap.size w W → (Instr.loadAt 29 (.pointer (some ⟨j.b, 0, none⟩))).run Tryz.prog W = .ok (grpV j.g) W) := Lib.hid (fun W hb => by
  rw [grpV_is]
  exact run_loadAt_mid W j.b 0 29 (grpC j.g) _ (fun jj v hv => by rw [Nat.zero_add]; exact (HBX.out.up hb).at jj v (by unfold JC; rw [List.getElem?_append_left (List.getElem?_eq_some_iff.1 hv).1]; exact hv)) Tryz.underlying29 rfl (by kernel_rfl))
 have HCX : Hid (∀ W, Below w.heap.size w W → Calls Tryz.prog 17 #[.slice j.A j.n j.c] W fun e w' => (∃ A' c', e = .returned (.slice A' j.n c') ∧ OwnR lyX 42 w' W.heap.size (.slice A' j.n c') (j.Xs.map (·.1))) ∧ Below W.heap.size W w') := Lib.hid (fun W hb => by
  have hr : RowAt lyX W j.A (j.Xs.map (·.1)) := by
   obtain ⟨A7, c7, e7, hr7, -⟩ := (h.row.up hb).reads
   injection e7 with e7 _ _
   rw [e7]; exact hr7
  have h9 := cloneX_any j.A j.c (j.Xs.map (·.1)) W hr (by rw [List.length_map, h.ln]; omega)
  rw [List.length_map, h.ln] at h9
  exact h9)
 have HMI : Hid (∀ W, Below w.heap.size w W → Calls Tryz.prog 18 #[.map (some j.bi)] W fun e w' => e = .returned (.map (some W.heap.size)) ∧ MapV w' W.heap.size j.n (idxF j.Es) ∧ Below W.heap.size W w') := Lib.hid (fun W hb => mapvc_any W j.bi j.n _ (h.idx.up hb))
 have HMR : Hid (∀ W, Below w.heap.size w W → Calls Tryz.prog 18 #[.map (some j.br)] W fun e w' => e = .returned (.map (some W.heap.size)) ∧ MapV w' W.heap.size j.n (revF j.Es) ∧ Below W.heap.size W w') := Lib.hid (fun W hb => mapvc_any W j.br j.n _ (h.rev.up hb))
 clear h hn
 go_enter Tryz.func7, Tryz.ntmps7
 go_wp2_with fail
 refine AK.region_facts (Rp := Below0) (Kp := Below0) (jcL j w) (jcJ j w) [[], [5], [6], [7], [], [9], [10], [11], [12], [], [14], [15], [16], [17], [], [19], [20], [21], [22], [8, 13, 18, 23], [24], [25]] [13, 18] [[], [18], [18, 23]] [2, 2, 2, 2, 2, 2, 2, 2, 2, 2, 2, 2, 2, 2, 2, 2, 2, 2, 2, 2, 2, 2] [0, 0, 0, 0, 0, 0, 0, 0, 0, 0, 0, 0, 0, 0, 0, 0, 0, 0, 0, 2, 0, 0] [] (fun u => by simp only [jcL, AK.temps, List.map_cons, List.map_nil, fillL, List.setIfInBounds_toArray, List.set_cons_zero, List.set_cons_succ]; rfl) (by kernel_rfl) (by kernel_rfl) (fun _ _ h => h.size) (fun _ _ h => h) (jcJ.st j w) (⟨dc_drew (Below.refl _ _), trivial⟩) ?_ ?_
 ·refine AK.sc (lim := 2) (lo := 0) rfl rfl rfl rfl ?_ ?_
  ·intro k_ u w_ hk_ hl_ hJ hF K hK
   clear hF
   go_simp
   exact hK.out _ _ bR (rfl) trivial
  refine AK.sc (lim := 2) (lo := 0) rfl rfl rfl rfl ?_ ?_
  ·intro k_ u w_ hk_ hl_ hJ hF K hK
   have h5 : u 5 = .pointer (some ⟨j.b, 0, none⟩) := AK.facts_get hF 5 (by simp)
   clear hF
   simp only [h5] at hK ⊢
   clear h5
   go_simp
   exact hK.out _ _ bR (rfl) trivial
  refine AK.sc (lim := 2) (lo := 0) rfl rfl rfl rfl ?_ ?_
  ·intro k_ u w_ hk_ hl_ hJ hF K hK
   have h6 : u 6 = .pointer (some ⟨j.b, 0, none⟩) := AK.facts_get hF 6 (by simp)
   clear hF
   simp only [h6] at hK ⊢
   clear h6
   go_simp
   exact hK.out _ _ bR (rfl) trivial
  refine AK.sc (lim := 2) (lo := 0) rfl rfl rfl rfl ?_ ?_
  ·intro k_ u w_ hk_ hl_ hJ hF K hK
   have h7 : u 7 = .pointer (some ⟨j.b, 0, none⟩) := AK.facts_get hF 7 (by simp)
   clear hF
   simp only [h7] at hK ⊢
   clear h7
   refine wp_load_is 29 _ rfl (.pointer (some ⟨j.b, 0, none⟩)) rfl (grpV j.g) (HLG.out _ hJ.1) ?_
   exact hK.out _ _ bR rfl trivial
  refine AK.sc (lim := 2) (lo := 0) rfl rfl rfl rfl ?_ ?_
  ·intro k_ u w_ hk_ hl_ hJ hF K hK
   clear hF
   go_simp
   exact hK.out _ _ bR (rfl) trivial
  refine AK.sc (lim := 2) (lo := 0) rfl rfl rfl rfl ?_ ?_
  ·intro k_ u w_ hk_ hl_ hJ hF K hK
   have h9 : u 9 = .pointer (some ⟨j.b, 0, none⟩) := AK.facts_get hF 9 (by simp)
   clear hF
   simp only [h9] at hK ⊢
   clear h9
   go_simp
   exact hK.out _ _ bR (rfl) trivial
  refine AK.sc (lim := 2) (lo := 0) rfl rfl rfl rfl ?_ ?_
  ·intro k_ u w_ hk_ hl_ hJ hF K hK
   have h10 : u 10 = .pointer (some ⟨j.b, 0, none⟩) := AK.facts_get hF 10 (by simp)
   clear hF
   simp only [h10] at hK ⊢
   clear h10
   go_simp
   exact hK.out _ _ bR (rfl) trivial
  refine AK.sc (lim := 2) (lo := 0) rfl rfl rfl rfl ?_ ?_
  ·intro k_ u w_ hk_ hl_ hJ hF K hK
   have h11 : u 11 = .pointer (some ⟨j.b, 21, none⟩) := AK.facts_get hF 11 (by simp)
   clear hF
   simp only [h11] at hK ⊢
   clear h11
   have c_ := (HBX.out.up hJ.1).at 21 _ rfl
   go_simp
   exact hK.out _ _ bR (rfl) trivial
  refine AK.sc (lim := 2) (lo := 0) rfl rfl rfl rfl ?_ ?_
  ·intro k_ u w_ hk_ hl_ hJ hF K hK
   have h12 : u 12 = .slice j.A j.n j.c := AK.facts_get hF 12 (by simp)
   clear hF
   simp only [h12] at hK ⊢
   clear h12
   go_simp
   refine (HCX.out _ hJ.1).mono ?_
   rintro r w6 ⟨⟨A_, c_, rfl, ho_⟩, hb6⟩
   exact hK.out _ _ hb6 ⟨A_, c_, rfl, ho_.low hJ.1.size⟩ trivial
  refine AK.sc (lim := 2) (lo := 0) rfl rfl rfl rfl ?_ ?_
  ·intro k_ u w_ hk_ hl_ hJ hF K hK
   clear hF
   go_simp
   exact hK.out _ _ bR (rfl) trivial
  refine AK.sc (lim := 2) (lo := 0) rfl rfl rfl rfl ?_ ?_
  ·intro k_ u w_ hk_ hl_ hJ hF K hK
   have h14 : u 14 = .pointer (some ⟨j.b, 0, none⟩) := AK.facts_get hF 14 (by simp)
   clear hF
   simp only [h14] at hK ⊢
   clear h14
   go_simp
   exact hK.out _ _ bR (rfl) trivial
  refine AK.sc (lim := 2) (lo := 0) rfl rfl rfl rfl ?_ ?_
  ·intro k_ u w_ hk_ hl_ hJ hF K hK
   have h15 : u 15 = .pointer (some ⟨j.b, 0, none⟩) := AK.facts_get hF 15 (by simp)
   clear hF
   simp only [h15] at hK ⊢
   clear h15
   go_simp
   exact hK.out _ _ bR (rfl) trivial
  refine AK.sc (lim := 2) (lo := 0) rfl rfl rfl rfl ?_ ?_
  ·intro k_ u w_ hk_ hl_ hJ hF K hK
   have h16 : u 16 = .pointer (some ⟨j.b, 22, none⟩) := AK.facts_get hF 16 (by simp)
   clear hF
   simp only [h16] at hK ⊢
   clear h16
   have c_ := (HBX.out.up hJ.1).at 22 _ rfl
   go_simp
   exact hK.out _ _ bR (rfl) trivial
  refine AK.ss rfl rfl ?_ ?_
  ·intro u w_ hJ hA_ hF K hK
   have h17 : u 17 = .map (some j.bi) := AK.facts_get hF 17 (by simp)
   clear hF
   simp only [h17] at hK ⊢
   clear h17
   go_simp
   refine (HMI.out _ hJ.1).mono ?_
   rintro r w6 ⟨rfl, hm_, hb6⟩
   exact hK.out _ _ ⟨hJ.1.trans (hb6.mono hJ.1.size), fun v9 hv9 => by cases hv9; exact ⟨_, rfl, hJ.1.size, hm_⟩⟩ hb6 trivial
  refine AK.sc (lim := 2) (lo := 0) rfl rfl rfl rfl ?_ ?_
  ·intro k_ u w_ hk_ hl_ hJ hF K hK
   clear hF
   go_simp
   exact hK.out _ _ bR (rfl) trivial
  refine AK.sc (lim := 2) (lo := 0) rfl rfl rfl rfl ?_ ?_
  ·intro k_ u w_ hk_ hl_ hJ hF K hK
   have h19 : u 19 = .pointer (some ⟨j.b, 0, none⟩) := AK.facts_get hF 19 (by simp)
   clear hF
   simp only [h19] at hK ⊢
   clear h19
   go_simp
   exact hK.out _ _ bR (rfl) trivial
  refine AK.sc (lim := 2) (lo := 0) rfl rfl rfl rfl ?_ ?_
  ·intro k_ u w_ hk_ hl_ hJ hF K hK
   have h20 : u 20 = .pointer (some ⟨j.b, 0, none⟩) := AK.facts_get hF 20 (by simp)
   clear hF
   simp only [h20] at hK ⊢
   clear h20
   go_simp
   exact hK.out _ _ bR (rfl) trivial
  refine AK.sc (lim := 2) (lo := 0) rfl rfl rfl rfl ?_ ?_
  ·intro k_ u w_ hk_ hl_ hJ hF K hK
   have h21 : u 21 = .pointer (some ⟨j.b, 23, none⟩) := AK.facts_get hF 21 (by simp)
   clear hF
   simp only [h21] at hK ⊢
   clear h21
   have c_ := (HBX.out.up hJ.1).at 23 _ rfl
   go_simp
   exact hK.out _ _ bR (rfl) trivial
  refine AK.ss rfl rfl ?_ ?_
  ·intro u w_ hJ hA_ hF K hK
   have h22 : u 22 = .map (some j.br) := AK.facts_get hF 22 (by simp)
   clear hF
   obtain ⟨hJ1, hJ2⟩ := hJ
   obtain ⟨b1_, e1_, hb1_, hm1_⟩ := hJ2 _ rfl
   have e9_ := e1_
   simp only [h22, e1_] at hK ⊢
   clear h22 e1_
   go_simp
   refine (HMR.out _ hJ1).mono ?_
   rintro r w6 ⟨rfl, hm_, hb6⟩
   exact hK.out _ _ ⟨hJ1.trans (hb6.mono hJ1.size), fun v9 v8 hv9 => by cases hv9; exact ⟨_, _, e9_, rfl, hb1_, hJ1.size, Nat.ne_of_lt hm1_.lt, hm1_.up hb6, hm_⟩⟩ hb6 trivial
  refine AK.sc (lim := 2) (lo := 2) rfl rfl rfl rfl ?_ ?_
  ·intro k_ u w_ hk_ hl_ hJ hF K hK
   obtain rfl : k_ = 2 := by omega
   have h8 : u 8 = grpV j.g := AK.facts_get hF 8 (by simp)
   have h13 : jcP13 j w.heap.size (u 13) w_ := AK.facts_get hF 13 (by simp)
   clear hF
   obtain ⟨A_, c_, h13, ho_⟩ := h13
   obtain ⟨b1_, b2_, e1_, e2_, hp1_, hp2_, hp3_, hp4_, hp5_⟩ := hJ.2 _ _ rfl
   simp only [h8, h13, e1_, e2_] at hK ⊢
   clear h8 h13 e1_ e2_
   refine wp_build_is 57 _ rfl [(0, grpV j.g), (1, .slice A_ j.n c_), (2, .map (some b1_)), (3, .map (some b2_))] rfl (.agg (jnC j.g (.slice A_ j.n c_) b1_ b2_).toArray) (jn_buildC _ _ _ _ _ _ _) ?_
   exact hK.out _ _ bR ⟨A_, c_, b1_, b2_, rfl, hp1_, hp2_, hp3_, hp4_, hp5_, ho_⟩ trivial
  refine AK.sc (lim := 2) (lo := 0) rfl rfl rfl rfl ?_ ?_
  ·intro k_ u w_ hk_ hl_ hJ hF K hK
   have h24 : jcP24 j w.heap.size (u 24) w_ := AK.facts_get hF 24 (by simp)
   clear hF
   obtain ⟨A_, c_, b1_, b2_, h24, hp_⟩ := h24
   simp only [h24] at hK ⊢
   clear h24
   refine wp_box_c 57 _ rfl (jnC j.g (.slice A_ j.n c_) b1_ b2_) rfl ?_
   exact hK.out _ _ (below_alloc_new _) ⟨_, A_, c_, b1_, b2_, rfl, hJ.1.size, Wh.new w_ 57 (jnC j.g (.slice A_ j.n c_) b1_ b2_), hp_.up (below_alloc_new _)⟩ trivial
  refine AK.sc (lim := 2) (lo := 0) rfl rfl rfl rfl ?_ ?_
  ·intro k_ u w_ hk_ hl_ hJ hF K hK
   have h25 : jcP25 j w.heap.size (u 25) w_ := AK.facts_get hF 25 (by simp)
   clear hF
   obtain ⟨p_, A_, c_, b1_, b2_, h25, hq_⟩ := h25
   simp only [h25] at hK ⊢
   clear h25
   go_simp
   exact hK.out _ _ bR ⟨p_, A_, c_, b1_, b2_, rfl, hq_⟩ trivial
  exact AK.StepsOk.nil
 ·intro u W9 hJ9 hF
  have h2 : jcP25 j w.heap.size (u 2) W9 := AK.facts_get hF 2 (by simp [jcL, AK.temps])
  clear hF
  obtain ⟨p, A, c, b1, b2, h2, hq⟩ := h2
  simp only [h2]
  have HQ := Lib.hid hq
  have HB9 := Lib.hid hJ9.1
  clear hq hJ9
  go_wp2_with fail
  go_ret
  exact ⟨⟨p, A, c, b1, b2, by first | rfl | simp, HQ.out⟩, HB9.out⟩
end Go.Proofs.YtacmccijnkojeaaGreat
