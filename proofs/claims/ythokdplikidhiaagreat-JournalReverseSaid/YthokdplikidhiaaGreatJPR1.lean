/- Contracts and the law of JournalReverse, part 1: what was proved of each, callees first. -/
import Derived.ArgAppend
import Derived.Test.YthokdplikidhiaaGreatJP9
namespace Go.Proofs.YthokdplikidhiaaGreat
open Go.RowKit
theorem wr_range (x : Int) : -9223372036854775808 ≤ wr x ∧ wr x ≤ 9223372036854775807 := by
 unfold Go.Proofs.YthokdplikidhiaaGreat.wr wrap64
 omega
def revE (x : Ety) (a b : Int) (A : Option Addr) (c : Nat) : Ety := ⟨a, x.ent, b, 3, x.id, x.txt, A, x.n, c⟩
theorem negL_is {l : Lnk} (h : amtB l.tgt = true) : negL l = ⟨l.frm, -l.tgt, l.since⟩ := by
 unfold amtB at h
 rw [Bool.and_eq_true, decide_eq_true_eq, decide_eq_true_eq] at h
 unfold negL
 rw [wr_small (by omega) (by omega)]
theorem lnB_amt {g : Grp} {e : Int} {l : Lnk} (h : lnB g e l = true) : amtB l.tgt = true := by
 unfold lnB at h
 rw [Bool.and_eq_true, Bool.and_eq_true] at h
 exact h.2.1
theorem lnB_neg {g : Grp} {e : Int} {l : Lnk} (h : lnB g e l = true) : lnB g e (negL l) = true := by
 rw [negL_is (lnB_amt h)]
 unfold lnB amtB at h ⊢
 simp only [Bool.and_eq_true, Bool.not_eq_true', decide_eq_true_eq, decide_eq_false_iff_not] at h ⊢
 exact ⟨by omega, ⟨by omega, by omega⟩, h.2.2⟩
theorem lsB_neg {g : Grp} {e : Int} {X : List Lnk} (h : lsB g e X = true) : lsB g e (X.map negL) = true := by
 unfold lsB at h ⊢
 simp only [Bool.and_eq_true, decide_eq_true_eq, List.all_eq_true, List.length_map] at h ⊢
 refine ⟨h.1, h.2.1, fun l hl => ?_⟩
 obtain ⟨m, hm, rfl⟩ := List.mem_map.1 hl
 exact lnB_neg (h.2.2 m hm)
theorem acB_neg (L : List Acc) (X : List Lnk) : acB L (X.map negL) = acB L X := by
 unfold acB
 rw [List.all_map]
 rfl
theorem sumT_neg : ∀ {X : List Lnk}, (∀ l ∈ X, amtB l.tgt = true) → sumT (X.map negL) = -sumT X
 | [], _ => rfl
 | a :: X, h => by
  have h1 := sumT_neg (X := X) (fun l hl => h l (by simp [hl]))
  have h2 : (negL a).tgt = -a.tgt := by rw [negL_is (h a (by simp))]
  unfold sumT at h1 ⊢
  rw [List.map_cons, List.map_cons, List.sum_cons, h1, h2, List.map_cons, List.sum_cons]
  omega
theorem blN_neg {X : List Lnk} (h : ∀ l ∈ X, amtB l.tgt = true) (h0 : blN X = 0) : blN (X.map negL) = 0 := by
 unfold blN at h0 ⊢
 split at h0
 ·rename_i h1
  rw [if_pos]
  rw [sumT_neg h]
  unfold Go.Proofs.YthokdplikidhiaaGreat.wr wrap64 at h1 ⊢
  omega
 ·cases h0
theorem fst6_zero {r0 r1 r2 r3 r4 r5 : Int} (h : fst6 r0 r1 r2 r3 r4 r5 = 0) : r0 = 0 ∧ r1 = 0 ∧ r2 = 0 ∧ r3 = 0 ∧ r4 = 0 ∧ r5 = 0 := by
 unfold fst6 at h
 by_cases h0 : r0 = 0
 ·by_cases h1 : r1 = 0
  ·by_cases h2 : r2 = 0
   ·by_cases h3 : r3 = 0
    ·by_cases h4 : r4 = 0
     ·rw [if_pos h0, if_pos h1, if_pos h2, if_pos h3, if_pos h4] at h
      exact ⟨h0, h1, h2, h3, h4, h⟩
     ·rw [if_pos h0, if_pos h1, if_pos h2, if_pos h3, if_neg h4] at h; exact absurd h h4
    ·rw [if_pos h0, if_pos h1, if_pos h2, if_neg h3] at h; exact absurd h h3
   ·rw [if_pos h0, if_pos h1, if_neg h2] at h; exact absurd h h2
  ·rw [if_pos h0, if_neg h1] at h; exact absurd h h1
 ·rw [if_neg h0] at h; exact absurd h h0
theorem erB_zero {b : Bool} (h : erB b = 0) : b = true := by cases b <;> simp_all [erB]
theorem er17_zero {b : Bool} (h : er17 b = 0) : b = true := by cases b <;> simp_all [er17]
theorem chk_parts {g : Grp} {x : Ety} {X : List Lnk} {L : List Acc} {G : List Ent} (h : chkN g x X L G = 0) :
  grpP g L G = true ∧ 1 ≤ x.id ∧ entIn g x.ent = true ∧ orgB x.kind x.of_ = true ∧ txtB x.txt = true ∧ lsB g x.ent X = true ∧ acB (G.getD x.ent.toNat ent0).L X = true ∧ prE g.cy g.cm g.cp x.day = 0 ∧ blN X = 0 := by
 unfold chkN at h
 obtain ⟨h0, h1, h2, h3, h4, h5⟩ := fst6_zero h
 unfold hdN at h0
 split at h0
 ·rename_i h6
  simp only [Bool.and_eq_true, decide_eq_true_eq] at h6
  exact ⟨h6.1, h6.2.1, h6.2.2.1, h6.2.2.2, erB_zero h1, erB_zero h2, er17_zero h3, h4, h5⟩
 ·cases h0
theorem chk_mk {g : Grp} {x : Ety} {X : List Lnk} {L : List Acc} {G : List Ent} (h0 : grpP g L G = true) (h1 : 1 ≤ x.id) (h2 : entIn g x.ent = true) (h3 : orgB x.kind x.of_ = true) (h4 : txtB x.txt = true) (h5 : lsB g x.ent X = true) (h6 : acB (G.getD x.ent.toNat ent0).L X = true) (h8 : blN X = 0) :
  chkN g x X L G = prE g.cy g.cm g.cp x.day := by
 have e0 : hdN g x L G = 0 := by
  unfold hdN
  rw [if_pos]
  simp only [Bool.and_eq_true, decide_eq_true_eq]
  exact ⟨h0, h1, h2, h3⟩
 unfold chkN fst6
 rw [e0, h4, h5, h6, h8]
 show (if (0 : Int) = 0 then (if (0 : Int) = 0 then (if (0 : Int) = 0 then (if (0 : Int) = 0 then _ else _) else _) else _) else _) = _
 rw [if_pos rfl, if_pos rfl, if_pos rfl, if_pos rfl]
 split
 ·rename_i h9; exact h9.symm
 ·rfl
theorem grpP_cl {g : Grp} {L : List Acc} {G : List Ent} (h : grpP g L G = true) : clV g.cy g.cm g.cp = true := by
 unfold grpP at h
 simp only [Bool.and_eq_true] at h
 exact h.2.1
theorem chk_rev {g : Grp} {x : Ety} {X : List Lnk} {L : List Acc} {G : List Ent} (h : chkN g x X L G = 0) {a : Int} (b : Int) (A : Option Addr) (c : Nat) (ha : 1 ≤ a) :
  chkN g (revE x a b A c) (X.map negL) L G = if inB g.cy g.cm g.cp b = true then 0 else 2 := by
 obtain ⟨h0, h1, h2, h3, h4, h5, h6, h7, h8⟩ := chk_parts h
 have hl := h5
 unfold lsB at hl
 simp only [Bool.and_eq_true, List.all_eq_true] at hl
 have hm : ∀ l ∈ X, amtB l.tgt = true := fun l hl2 => lnB_amt (hl.2.2 l hl2)
 rw [chk_mk (x := revE x a b A c) h0 ha h2 (by show orgB 3 x.id = true; unfold orgB; rw [if_neg (by omega), if_pos rfl]; exact decide_eq_true h1) h4 (lsB_neg h5) (by rw [acB_neg]; exact h6) (blN_neg hm h8)]
 show prE g.cy g.cm g.cp b = _
 unfold prE
 rw [if_pos (grpP_cl h0), in_is (grpP_cl h0)]
theorem opp_self (X : List Lnk) : oppB (X.map negL) X = true := decide_eq_true rfl
theorem okL_neg {X : List Lnk} (h : ∀ l ∈ X, okK (kOf l) ∧ (Lit.int .i64 l.tgt).wf = true) : ∀ l ∈ X.map negL, okK (kOf l) ∧ (Lit.int .i64 l.tgt).wf = true := by
 intro l hl
 obtain ⟨m, hm, rfl⟩ := List.mem_map.1 hl
 refine ⟨(h m hm).1, ?_⟩
 show (decide (-9223372036854775808 ≤ wr (-m.tgt)) && decide (wr (-m.tgt) ≤ 9223372036854775807)) = true
 have h9 := wr_range (-m.tgt)
 rw [decide_eq_true h9.1, decide_eq_true h9.2]
 rfl
structure PS (g : Grp) (L : List Acc) (G : List Ent) (Xs : List Etl) (w2 : World) (i : Nat) (Os : List Etl) (jb : Nat) (j : JD) (M : Nat → Prop) (v : Value) (W : World) : Prop where
 jk : JK M w2.heap.size W j
 jb : j.b = jb
 bd : BareD g L G j
 es : j.Es = Os.map pe
 mw : ∀ k, M k → w2.heap.size ≤ k ∧ k < W.heap.size
 ow : OwnR lyX 46 W w2.heap.size v (Os.map (·.1))
 dj : ∀ k, v.ownBlock = some k → ¬ M k
 low : Below w2.heap.size w2 W
 sub : ∀ p ∈ Os, p ∈ Xs
 ln : Os.length ≤ i
 im : Im (fun k => M k ∨ v.ownBlock = some k) (fun W => GrK W j.g j.L j.G ∧ EtysK W j.Xs) W
 ok : ∀ p ∈ Os, wr (sumT p.2) = 0 ∧ 0 ≤ p.1.ent ∧ p.1.ent < (g.m : Int)
theorem rchk_ok {g : Grp} {G : List Ent} {x : Ety} {X : List Lnk} {gp : Bool} (h : rchkN (shpB gp g x X) (acB (G.getD x.ent.toNat ent0).L X) (rtlN g x X) = 0) : wr (sumT X) = 0 ∧ 0 ≤ x.ent ∧ x.ent < (g.m : Int) := by
 unfold rchkN at h
 split at h
 ·rename_i h1
  have h2 := shpB_ent h1
  unfold entIn at h2
  simp only [Bool.and_eq_true, decide_eq_true_eq] at h2
  split at h
  ·unfold rtlN at h
   split at h
   ·split at h
    ·rename_i h3
     exact ⟨h3, h2.1, h2.2⟩
    ·cases h
   ·cases h
  ·cases h
 ·cases h
section
variable {g : Grp} {L : List Acc} {G : List Ent} {Xs Os : List Etl} {w2 W W' : World} {i jb : Nat} {j : JD} {M : Nat → Prop} {v v' : Value}
theorem PS.up (h : PS g L G Xs w2 i Os jb j M v W) (hb : Below W.heap.size W W') : PS g L G Xs w2 i Os jb j M v W' :=
 ⟨h.jk.up hb, h.jb, h.bd, h.es, fun k hk => ⟨(h.mw k hk).1, Nat.lt_of_lt_of_le (h.mw k hk).2 hb.size⟩, h.ow.up hb, h.dj, h.low.trans (hb.mono h.low.size), h.sub, h.ln, h.im.on (Only.of hb), h.ok⟩
theorem PS.len (h : PS g L G Xs w2 i Os jb j M v W) : j.n ≤ i := by
 have h1 := h.jk.len
 rw [h.es, List.length_map] at h1
 have := h.ln
 omega
theorem PS.more (h : PS g L G Xs w2 i Os jb j M v W) : PS g L G Xs w2 (i + 1) Os jb j M v W := { h with ln := Nat.le_succ_of_le h.ln }
theorem PS.post {x : Ety} {X : List Lnk} (h : PS g L G Xs w2 i Os jb j M v W) (hp : PostP M w2.heap.size j x X W W') : ∃ j' M', JK M' w2.heap.size W' j' ∧ j'.b = jb ∧ BareD g L G j' ∧ j'.Es = Os.map pe ++ [pe (x, X)] ∧ (∀ k, M' k → w2.heap.size ≤ k ∧ k < W'.heap.size) ∧ OwnR lyX 46 W' w2.heap.size v (Os.map (·.1)) ∧ (∀ k, v.ownBlock = some k → ¬ M' k) ∧ Below w2.heap.size w2 W' ∧ Im (fun k => M' k ∨ v.ownBlock = some k) (fun W => GrK W j'.g j'.L j'.G ∧ EtysK W j'.Xs) W' := by
 obtain ⟨A, c, A', c', h1, h2, h3, h4⟩ := hp
 refine ⟨j.add (x.at A c) X A' c', MA M j A' c', h1, h.jb, h.bd, by rw [JD.add_es, h.es]; rfl, fun k hk => ?_, h.ow.blk fun k hk => h2.blk k (h.ow.lt hk).2 (h.dj k hk), fun k hk hm => ?_, h.low.trans (h2.below (fun k hk => (h.mw k hk).1) h.low.size), ?_⟩
 ·obtain ⟨h4, h5⟩ := h3 k hk
  refine ⟨?_, h5⟩
  rcases h4 with h4 | h4
  ·exact (h.mw k h4).1
  ·have := h.low.size; omega
 ·obtain ⟨h4, -⟩ := h3 k hm
  rcases h4 with h4 | h4
  ·exact h.dj k hk h4
  ·have := (h.ow.lt hk).2; omega
 ·have h5 := h.im.step (T := fun k => MA M j A' c' k ∨ v.ownBlock = some k) (h2.wide fun k _ hk => .inl hk) (fun k hk hm => by
   rcases hm with hm | hm
   ·rcases (h3 k hm).1 with h6 | h6
    ·exact .inl h6
    ·omega
   ·exact .inr hm)
  refine (h5.both (h4 (fun k => v.ownBlock = some k) fun k hk => (h.ow.lt hk).2)).imp fun W0 hw => ⟨hw.1.1, fun p hp => ?_⟩
  rcases List.mem_append.1 hp with h7 | h7
  ·exact hw.1.2 p h7
  ·rw [List.mem_singleton] at h7
   rw [h7]; exact hw.2
theorem PS.app {x : Ety} {X : List Lnk} {j2 : JD} {M2 : Nat → Prop} {W8 W9 : World} {v9 : Value} (h1 : JK M2 w2.heap.size W8 j2) (h2 : j2.b = jb) (h3 : BareD g L G j2) (h4 : j2.Es = Os.map pe ++ [pe (x, X)]) (h5 : ∀ k, M2 k → w2.heap.size ≤ k ∧ k < W8.heap.size) (h6 : OwnR lyX 46 W8 w2.heap.size v (Os.map (·.1))) (h7 : ∀ k, v.ownBlock = some k → ¬ M2 k) (h8 : Below w2.heap.size w2 W8)
  (him : Im (fun k => M2 k ∨ v.ownBlock = some k) (fun W => GrK W j2.g j2.L j2.G ∧ EtysK W j2.Xs) W8) (ho : OwnR lyX 46 W9 w2.heap.size v9 (Os.map (·.1) ++ [x])) (hg : W8.grownBy W9 v.ownBlock) (hn : v9.ownBlock = v.ownBlock ∨ v9.ownBlock = some W8.heap.size) (hsub : ∀ p ∈ Os, p ∈ Xs) (hx : (x, X) ∈ Xs) (hln : Os.length ≤ i) (hok : ∀ p ∈ Os, wr (sumT p.2) = 0 ∧ 0 ≤ p.1.ent ∧ p.1.ent < (g.m : Int)) (hox : wr (sumT X) = 0 ∧ 0 ≤ x.ent ∧ x.ent < (g.m : Int)) : PS g L G Xs w2 (i + 1) (Os ++ [(x, X)]) jb j2 M2 v9 W9 := by
 have hon : Only (fun k => v.ownBlock = some k) W8 W9 := Only.grown hg fun k hk => hk
 have hne : ∀ k, M2 k → k < W8.heap.size → W9.heap[k]? = W8.heap[k]? := fun k hm hk => hon.blk k hk fun e => h7 k e hm
 have him9 := him.step (T := fun k => M2 k ∨ v9.ownBlock = some k) (hon.wide fun k _ hk => .inr hk) (fun k hk hm => by
  rcases hm with hm | hm
  ·exact .inl hm
  ·rcases hn with e | e
   ·exact .inr (by rw [← e]; exact hm)
   ·rw [e] at hm
    injection hm with hm
    omega)
 have himM : Im M2 (fun W => GrK W j2.g j2.L j2.G ∧ EtysK W j2.Xs) W9 := him9.step (Only.refl W9) fun k _ hk => .inl hk
 refine ⟨⟨h1.box.only hon (fun e => h7 _ e h1.mb), h1.row.blk fun k hk => hne k (h1.mx k hk) (h1.row.lt hk).2, h1.ln, h1.idx.blk (hne _ h1.mi (h5 _ h1.mi).2), h1.rev.blk (hne _ h1.mr (h5 _ h1.mr).2), himM.imp fun _ h => h.1, himM.imp fun _ h => h.2, h1.mb, h1.mi, h1.mr, h1.mx, h1.ne, h1.hs, h1.hw, h1.good⟩, h2, h3, by rw [h4, List.map_append]; rfl, fun k hk => ⟨(h5 k hk).1, Nat.lt_of_lt_of_le (h5 k hk).2 hon.size⟩, by rw [List.map_append]; exact ho, fun k hk hm => ?_, h8.trans (hon.below (fun k hk => (h6.lt hk).1) h8.size), fun p hp => ?_, by rw [List.length_append]; simp; omega, him9, fun p hp => ?_⟩
 ·rcases hn with e | e
  ·exact h7 k (by rw [← e]; exact hk) hm
  ·rw [e] at hk
   injection hk with hk
   have := (h5 k hm).2
   omega
 ·rcases List.mem_append.1 hp with h9 | h9
  ·exact hsub p h9
  ·rw [List.mem_singleton] at h9
   rw [h9]; exact hx
 ·rcases List.mem_append.1 hp with h9 | h9
  ·exact hok p h9
  ·rw [List.mem_singleton] at h9
   rw [h9]; exact hox
theorem PS.start {j0 : JD} {M0 : Nat → Prop} {w3 : World} (hj0 : JK M0 w2.heap.size w3 j0) (hx0 : j0.Xs = []) (hm0 : ∀ k, M0 k → w2.heap.size ≤ k ∧ k < w3.heap.size) (hd0 : BareD g L G j0) (hb : Below w2.heap.size w2 w3) : PS g L G Xs w2 0 [] j0.b j0 M0 (.slice none 0 0) w3 :=
 ⟨hj0, rfl, hd0, (by unfold JD.Es; rw [hx0]; first | done | rfl), hm0, OwnR.nil, (fun k hk => by cases hk), hb, (fun p hp => by cases hp), Nat.le_refl _, (hj0.grp.both hj0.ets).step (Only.refl w3) (fun k _ hk => hk.elim id fun h => by cases h), fun p hp => by cases hp⟩
end
def pstF (bb off n c s0 o9 c9 i : Nat) (A9 : Option Addr) (E : Int) (GV XV : Value) : List (Nat × AK.Fact (Below0)) := [(40, AK.Fact.is (GV)), (41, AK.Fact.is (.slice A9 o9 c9)), (42, AK.Fact.is (.slice (some ⟨bb, off, none⟩) n c)), (43, AK.Fact.is (.int .i64 (i : Int))), (44, AK.Fact.is (.pointer (some ⟨bb, off + i * 7, none⟩))), (45, AK.Fact.is (XV)), (46, AK.Fact.is (.int .i64 E)), (11, AK.Fact.is (.int .i64 E))]
open Go.RowKit
theorem smp_sm (A : Option Addr) (c : Nat) (E : Option Addr) (p0 p1 p2 p3 : EAd) : Sm (smpG A c E) (smpEs p0 p1 p2 p3) := ⟨by show 26 ≤ 60; omega, by show 4 ≤ 14; omega, fun e he => by
 simp [smpEs] at he
 rcases he with rfl | rfl | rfl | rfl <;> exact ⟨by show 14 ≤ 60; omega, by show 14 ≤ 60; omega⟩⟩
theorem smp_w (A : Option Addr) (c : Nat) (E : Option Addr) (p0 p1 p2 p3 : EAd) : GrW (smpG A c E) smpL (smpEs p0 p1 p2 p3) := ⟨by show 3 ≤ maxLen; unfold maxLen; omega, (by
 have h : ((smpG A c E).R.all fun x => (Lit.int .i64 x).wf) = true := by kernel_rfl
 exact fun x hx => List.all_eq_true.1 h x hx), fun e he => by
 simp [smpEs] at he
 rcases he with rfl | rfl | rfl | rfl
 ·exact ⟨by show 6 ≤ maxLen; unfold maxLen; omega, by show 3 ≤ maxLen; unfold maxLen; omega⟩
 ·exact ⟨by show 5 ≤ maxLen; unfold maxLen; omega, by show 3 ≤ maxLen; unfold maxLen; omega⟩
 ·exact ⟨by show 4 ≤ maxLen; unfold maxLen; omega, by show 3 ≤ maxLen; unfold maxLen; omega⟩
 ·exact ⟨by show 5 ≤ maxLen; unfold maxLen; omega, by show 3 ≤ maxLen; unfold maxLen; omega⟩⟩
def ety1 : Ety := ⟨1, 0, 0, 0, 0, ⟨#[]⟩, none, 0, 0⟩
theorem ety1_k (w : World) : EtyK w ety1 [] := ⟨rfl, LnkAt.nil, fun l hl => by cases hl⟩
theorem ety1_chk (g : Grp) (L : List Acc) (G : List Ent) : chkN g ety1 [] L G = 1 := by
 have h1 : hdN g ety1 L G = 1 := by
  unfold hdN
  have h2 : orgB ety1.kind ety1.of_ = false := rfl
  rw [h2]
  simp
 unfold chkN fst6
 rw [h1]
 rfl
theorem ety1_build (w : World) : (Instr.build 46 #[(0, .int .i64 1)]).run Tryz.prog w = .ok (etyV ety1) w := run_build w 46 _ _ (by kernel_rfl)
theorem snew_any (A : Option Addr) (c : Nat) (E : Option Addr) (p0 p1 p2 p3 : EAd) (w : World) (hk : GrK w (smpG A c E) smpL (smpEs p0 p1 p2 p3)) : Calls Tryz.prog 41 #[grpV (smpG A c E)] w fun e w' => (∃ j M B, e = .returned (.tuple #[.pointer (some ⟨j.b, 0, none⟩), .int .i64 0]) ∧ JK M B w' j ∧ j.n = 0) ∧ Below w.heap.size w w' := by
 refine (new_any (smpG A c E) smpL (smpEs p0 p1 p2 p3) w hk (smp_sm A c E p0 p1 p2 p3) (smp_w A c E p0 p1 p2 p3)).mono ?_
 rintro e w' ⟨h, hb⟩
 unfold NewP at h
 rw [smp_ok, if_pos rfl] at h
 obtain ⟨j, M, h1, h2, h3, -, -⟩ := h
 exact ⟨⟨j, M, _, h1, h2, by rw [← h2.ln, h3]; rfl⟩, hb⟩
set_option maxRecDepth 100000 in
set_option maxHeartbeats 6400000 in
theorem jawake_any (w : World) : Calls Tryz.prog 13 #[] w fun e w' => e = .returned (.bool true) ∧ Below w.heap.size w w' := by
 have HN := Lib.hid snew_any
 have HP := Lib.hid (fun (M : Nat → Prop) (B : Nat) (j : JD) (W : World) (h : JK M B W j) => by have h9 := post1_any j ety1 [] W h (ety1_k W) (Nat.zero_le _) (by rw [ety1_chk]; decide); rw [ety1_chk] at h9; exact h9)
 go_enter Tryz.func13, Tryz.ntmps13
 go_upto_region 2 with (first
  | (go_at_call 40; refine (spgrp_any _).mono ?_; rintro e w3 ⟨⟨A, c, E, p0, p1, p2, p3, rfl, hk⟩, hb⟩; have HK3 := Lib.hid hk; have HB3 := Lib.hid hb; clear hk hb; obtain ⟨s3, hs3⟩ : ∃ s3, w3.heap.size = s3 := ⟨_, rfl⟩; have HS3 := Lib.hid hs3)
  | (refine wpList_store_wh rfl 29 _ _ rfl s3 rfl 29 [.string ⟨#[]⟩, .int .i64 0, .int .i64 0, .int .i64 0, .slice none 0 0, .int .i64 0, .int .i64 0, .int .i64 0, .int .i64 0, .int .i64 0, .int .i64 0, .int .i64 0, .int .i64 0, .int .i64 0, .int .i64 0, .int .i64 0, .int .i64 0, .int .i64 0, .int .i64 0, .int .i64 0, .slice none 0 0] (grpC (smpG A c E)) rfl (by rw [← HS3.out]; exact Wh.new w3 29 [.string ⟨#[]⟩, .int .i64 0, .int .i64 0, .int .i64 0, .slice none 0 0, .int .i64 0, .int .i64 0, .int .i64 0, .int .i64 0, .int .i64 0, .int .i64 0, .int .i64 0, .int .i64 0, .int .i64 0, .int .i64 0, .int .i64 0, .int .i64 0, .int .i64 0, .int .i64 0, .int .i64 0, .slice none 0 0]) rfl (by kernel_rfl) (by kernel_rfl) ?_; intro w5 hr5 ho5 hz5; have HG5 := Lib.hid hr5.out; have hb5 : Below w3.heap.size w3 w5 := only_new (by rw [HS3.out]; exact ho5.out); have HK5 := Lib.hid (HK3.out.up hb5); have HB5 := Lib.hid (HB3.out.trans (hb5.mono HB3.out.size)); clear hr5 ho5 hz5 hb5 hs3 HK3 HB3))
 have HLG : Hid ((Instr.loadAt 29 (.pointer (some ⟨s3, 0, none⟩))).run Tryz.prog w5 = .ok (grpV (smpG A c E)) w5) := Lib.hid (by rw [grpV_is]; exact HG5.out.rg.load 0 29 (grpC (smpG A c E)) rfl _ Tryz.underlying29 rfl (by kernel_rfl))
 obtain ⟨GV, hGV⟩ : ∃ GV, GV = grpV (smpG A c E) := ⟨_, rfl⟩
 rw [← hGV] at HLG
 have HGV := Lib.hid hGV
 clear hGV
 go_wp2_with (first
  | (refine wpList_load_is rfl 29 _ rfl (.pointer (some ⟨s3, 0, none⟩)) rfl GV HLG.out ?_)
  | (go_at_call 41; rw [HGV.out]; refine (HN.out A c E p0 p1 p2 p3 _ HK5.out).mono ?_; rintro e w6 ⟨⟨j, M, B, rfl, hj, hj0⟩, hb⟩; have HJ6 := Lib.hid hj; have hn0 : j.n = 0 := hj0; have HB6 := Lib.hid (HB5.out.trans (hb.mono HB5.out.size)); clear hj hb hj0)
  | (refine wpList_build_is rfl 46 _ rfl [(0, .int .i64 1)] rfl (etyV ety1) (ety1_build _) ?_)
  | (go_at_call 24; refine (HP.out M B j _ HJ6.out).mono ?_; rintro e w7 ⟨rfl, hb⟩; have HJ7 := Lib.hid (HJ6.out.up hb); have HB7 := Lib.hid (HB6.out.trans (hb.mono HB6.out.size)); clear hb HJ6 HB6)
  | (go_at_call 42; refine (jlen_any j _ HJ7.out).mono ?_; rintro e w8 ⟨rfl, rfl⟩; rw [hn0]))
 go_ret
 exact ⟨rfl, HB7.out⟩
open Go.ChangeShapes Go.WideShapes Go.ChangeAt Go.WideMaps Go.WideElems Go.RowKit Go.Deep Go.Joins
section
variable {H : Type} {enc : TypeId × Value → H} {P : Program} {W : World}
theorem open_nums {E I : TypeId} {fs : Array Field} {fuel : Nat} {cs : List Value} {x : DataW H × List MemPlace} (hE : P.underlying E = some (.struct fs))
  (hone : oneCellFields P fs = true) (hty : (fs.toList.all fun f => f.type == I) = true) (hI : P.underlying I = some (.int .i64))
  (hl : cs.length = fs.size) (h2 : DataW.trod enc P W 0 (fun _ => true) true fuel E cs = some x) :
  ∀ j, j < fs.size → ∃ z : Int, cs[j]? = some (.int .i64 z) ∧ (Lit.int .i64 z).wf = true := by
 intro j hj
 obtain ⟨xs, n', -, -, -, hxl, hff⟩ := DataW.trod_struct hE h2
 have hfj : fs[j]? = some fs[j] := Array.getElem?_eq_getElem hj
 obtain ⟨ho, hk1⟩ := hone_of hone j _ hfj
 have ht : fs[j].type = I := by
  have := List.all_eq_true.1 hty fs[j] (by simp)
  simpa using this
 have hxj : xs[j]? = some (xs[j]'(by omega)) := List.getElem?_eq_getElem (by omega)
 have h3 := hff j _ hfj
 rw [ho, hk1, ht, hxj] at h3
 obtain ⟨z, hz, -, hw⟩ := DataW.trod_int hI h3
 refine ⟨z, ?_, hw⟩
 have h5 : (cs.drop j).take 1 = [cs[j]'(by omega)] := by
  rw [List.drop_eq_getElem_cons (by omega)]; rfl
 rw [h5] at hz
 rw [List.getElem?_eq_getElem (by omega)]
 injection hz with hz
 rw [hz]
end
theorem cells21 {cs : List Value} (h : cs.length = 21) : ∃ c0 c1 c2 c3 c4 c5 c6 c7 c8 c9 c10 c11 c12 c13 c14 c15 c16 c17 c18 c19 c20, cs = [c0, c1, c2, c3, c4, c5, c6, c7, c8, c9, c10, c11, c12, c13, c14, c15, c16, c17, c18, c19, c20] := by
 match cs, h with
 | [c0, c1, c2, c3, c4, c5, c6, c7, c8, c9, c10, c11, c12, c13, c14, c15, c16, c17, c18, c19, c20], _ => exact ⟨c0, c1, c2, c3, c4, c5, c6, c7, c8, c9, c10, c11, c12, c13, c14, c15, c16, c17, c18, c19, c20, rfl⟩
section
variable {H : Type} {enc : TypeId × Value → H} {W : World}
set_option maxRecDepth 100000 in
theorem open_igrp {b0 : Nat} {v : Value} {d : DataW H} {p : List MemPlace} (hval : Value.okWide Tryz.prog W .any b0 29 v) (h : DataW.Trod enc Tryz.prog W 0 (fun _ => true) true 29 v d p) :
  ∃ g L G, v = grpV g ∧ GrK W g L G ∧ GrW g L G ∧ g.m ≤ 9223372036854775807 := by
 obtain ⟨cs, rfl, hsz⟩ := okWide_struct Tryz.underlying29 hval
 obtain ⟨fuel, hf⟩ := h
 have hcs : (Value.agg cs).cells.toList = cs.toList := by simp [Value.cells]
 rw [hcs] at hf
 obtain ⟨xs, n', -, -, hlen, hxl, hff⟩ := DataW.trod_struct Tryz.underlying29 hf
 have hC : Tryz.prog.cellsOf 29 = 21 := by kernel_rfl
 rw [hC] at hlen
 obtain ⟨c0, c1, c2, c3, c4, c5, c6, c7, c8, c9, c10, c11, c12, c13, c14, c15, c16, c17, c18, c19, c20, e21⟩ := cells21 hlen
 have k9 : Tryz.prog.cellsOf 9 = 1 := by kernel_rfl
 have kc : Tryz.prog.cellsOf 23 = 3 := by kernel_rfl
 have ka : Tryz.prog.cellsOf 24 = 1 := by kernel_rfl
 have kr : Tryz.prog.cellsOf 26 = 15 := by kernel_rfl
 have ke : Tryz.prog.cellsOf 27 = 1 := by kernel_rfl
 have hxl' : xs.length = 5 := hxl
 have hget : ∀ i, i < 5 → ∃ y, xs[i]? = some y := fun i hi => ⟨_, List.getElem?_eq_getElem (by omega)⟩
 have h0 : DataW.trod enc Tryz.prog W 0 (fun _ => true) true n' 9 ((cs.toList.drop 0).take (Tryz.prog.cellsOf 9)) = xs[0]? := hff 0 _ rfl
 have h1 : DataW.trod enc Tryz.prog W 0 (fun _ => true) true n' 23 ((cs.toList.drop 1).take (Tryz.prog.cellsOf 23)) = xs[1]? := hff 1 _ rfl
 have h2 : DataW.trod enc Tryz.prog W 0 (fun _ => true) true n' 24 ((cs.toList.drop 4).take (Tryz.prog.cellsOf 24)) = xs[2]? := hff 2 _ rfl
 have h3 : DataW.trod enc Tryz.prog W 0 (fun _ => true) true n' 26 ((cs.toList.drop 5).take (Tryz.prog.cellsOf 26)) = xs[3]? := hff 3 _ rfl
 have h4 : DataW.trod enc Tryz.prog W 0 (fun _ => true) true n' 27 ((cs.toList.drop 20).take (Tryz.prog.cellsOf 27)) = xs[4]? := hff 4 _ rfl
 obtain ⟨y0, e0⟩ := hget 0 (by omega)
 obtain ⟨y1, e1⟩ := hget 1 (by omega)
 obtain ⟨y2, e2⟩ := hget 2 (by omega)
 obtain ⟨y3, e3⟩ := hget 3 (by omega)
 obtain ⟨y4, e4⟩ := hget 4 (by omega)
 rw [e0, k9, e21] at h0
 rw [e1, kc, e21] at h1
 rw [e2, ka, e21] at h2
 rw [e3, kr, e21] at h3
 rw [e4, ke, e21] at h4
 have n1 := open_nums (cs := [c1, c2, c3]) Tryz.underlying23 (by kernel_rfl) (by kernel_rfl) Tryz.underlying3 rfl h1
 have n3 := open_nums (cs := [c5, c6, c7, c8, c9, c10, c11, c12, c13, c14, c15, c16, c17, c18, c19]) Tryz.underlying26 (by kernel_rfl) (by kernel_rfl) Tryz.underlying3 rfl h3
 obtain ⟨cur, q0, -, bc⟩ := DataW.trod_string Tryz.underlying9 h0
 obtain ⟨A, n, c, L, q4, ln, -, hz, wa⟩ := open_waccs Tryz.underlying24 Tryz.underlying118 (by kernel_rfl) (by kernel_rfl) (by kernel_rfl) Tryz.underlying3 h2
 obtain ⟨X, m, cap, G, q20, lg, hmx, he, hk, hb⟩ := open_entsC Tryz.underlying27 h4
 obtain ⟨z1, p1, -⟩ := n1 0 (by decide)
 obtain ⟨z2, p2, -⟩ := n1 1 (by decide)
 obtain ⟨z3, p3, -⟩ := n1 2 (by decide)
 obtain ⟨r0, s0, w0⟩ := n3 0 (by decide)
 obtain ⟨r1, s1, w1⟩ := n3 1 (by decide)
 obtain ⟨r2, s2, w2⟩ := n3 2 (by decide)
 obtain ⟨r3, s3, w3⟩ := n3 3 (by decide)
 obtain ⟨r4, s4, w4⟩ := n3 4 (by decide)
 obtain ⟨r5, s5, w5⟩ := n3 5 (by decide)
 obtain ⟨r6, s6, w6⟩ := n3 6 (by decide)
 obtain ⟨r7, s7, w7⟩ := n3 7 (by decide)
 obtain ⟨r8, s8, w8⟩ := n3 8 (by decide)
 obtain ⟨r9, s9, w9⟩ := n3 9 (by decide)
 obtain ⟨r10, s10, w10⟩ := n3 10 (by decide)
 obtain ⟨r11, s11, w11⟩ := n3 11 (by decide)
 obtain ⟨r12, s12, w12⟩ := n3 12 (by decide)
 obtain ⟨r13, s13, w13⟩ := n3 13 (by decide)
 obtain ⟨r14, s14, w14⟩ := n3 14 (by decide)
 have a0 : c0 = .string cur := by simpa using q0
 have a4 : c4 = .slice A n c := by simpa using q4
 have a20 : c20 = .slice X m cap := by simpa using q20
 have b1 : c1 = .int .i64 z1 := by simpa using p1
 have b2 : c2 = .int .i64 z2 := by simpa using p2
 have b3 : c3 = .int .i64 z3 := by simpa using p3
 have t0 : c5 = .int .i64 r0 := by simpa using s0
 have t1 : c6 = .int .i64 r1 := by simpa using s1
 have t2 : c7 = .int .i64 r2 := by simpa using s2
 have t3 : c8 = .int .i64 r3 := by simpa using s3
 have t4 : c9 = .int .i64 r4 := by simpa using s4
 have t5 : c10 = .int .i64 r5 := by simpa using s5
 have t6 : c11 = .int .i64 r6 := by simpa using s6
 have t7 : c12 = .int .i64 r7 := by simpa using s7
 have t8 : c13 = .int .i64 r8 := by simpa using s8
 have t9 : c14 = .int .i64 r9 := by simpa using s9
 have t10 : c15 = .int .i64 r10 := by simpa using s10
 have t11 : c16 = .int .i64 r11 := by simpa using s11
 have t12 : c17 = .int .i64 r12 := by simpa using s12
 have t13 : c18 = .int .i64 r13 := by simpa using s13
 have t14 : c19 = .int .i64 r14 := by simpa using s14
 subst a0 a4 a20 b1 b2 b3 t0 t1 t2 t3 t4 t5 t6 t7 t8 t9 t10 t11 t12 t13 t14
 refine ⟨⟨cur, z1, z2, z3, A, n, c, r0, r1, r2, r3, r4, r5, r6, r7, r8, r9, r10, r11, r12, r13, r14, X, m, cap⟩, L, G, ?_, ⟨ln, lg, hz, he, hk⟩, ⟨bc, fun x hx => ?_, hb⟩, hmx⟩
 ·rw [← Array.toArray_toList (xs := cs), e21]
 ·simp only [Grp.R, List.mem_cons, List.mem_nil_iff, or_false] at hx
  rcases hx with rfl | rfl | rfl | rfl | rfl | rfl | rfl | rfl | rfl | rfl | rfl | rfl | rfl | rfl | rfl
  ·exact w0
  ·exact w1
  ·exact w2
  ·exact w3
  ·exact w4
  ·exact w5
  ·exact w6
  ·exact w7
  ·exact w8
  ·exact w9
  ·exact w10
  ·exact w11
  ·exact w12
  ·exact w13
  ·exact w14
end
open Go.ChangeShapes Go.WideShapes Go.ChangeAt Go.WideMaps Go.WideElems Go.RowKit Go.Deep Go.Joins
theorem open_wlineK {H : Type} {enc : TypeId × Value → H} {W : World} {fuel : Nat} {cs : List Value} {x : DataW H × List MemPlace} (hf : DataW.trod enc Tryz.prog W 0 (fun _ => true) true fuel 44 cs = some x) :
  ∃ A len cap K, cs = [.slice A len cap] ∧ K.length = len ∧ len ≤ 9223372036854775807 ∧ LnkAt W A K ∧ ∀ l ∈ K, okK (kOf l) ∧ (Lit.int .i64 l.tgt).wf = true := by
 obtain ⟨A, len, cap, K, hcs, hlen, hmax, hz, hw⟩ := open_wlnks Tryz.underlying44 Tryz.underlying59 (by kernel_rfl) (by kernel_rfl) (by kernel_rfl) Tryz.underlying3 hf
 exact ⟨A, len, cap, K, hcs, hlen, hmax, hz, fun l hl => ⟨⟨(hw l hl).frm, (hw l hl).since⟩, (hw l hl).tgt⟩⟩
theorem cellsE7 {cs : List Value} (h : cs.length = 7) : ∃ c0 c1 c2 c3 c4 c5 c6, cs = [c0, c1, c2, c3, c4, c5, c6] := by
 match cs, h with
 | [c0, c1, c2, c3, c4, c5, c6], _ => exact ⟨c0, c1, c2, c3, c4, c5, c6, rfl⟩
section
variable {H : Type} {enc : TypeId × Value → H} {W : World}
end
open Go.ChangeShapes Go.WideShapes Go.ChangeAt Go.WideMaps Go.WideElems Go.RowKit Go.Deep Go.Joins
theorem list_of_all {α : Type} {S : Nat → α → Prop} : ∀ n : Nat, (∀ k, k < n → ∃ a, S k a) → ∃ L : List α, L.length = n ∧ ∀ k, k < n → ∃ a, L[k]? = some a ∧ S k a
 | 0, _ => ⟨[], rfl, fun k h => absurd h (by omega)⟩
 | n + 1, h => by
  obtain ⟨L, hl, hL⟩ := list_of_all n fun k hk => h k (by omega)
  obtain ⟨a, ha⟩ := h n (by omega)
  refine ⟨L ++ [a], by simp [hl], fun k hk => ?_⟩
  rcases Nat.lt_or_ge k n with h1 | h1
  ·obtain ⟨b, hb, hs⟩ := hL k h1
   exact ⟨b, by rw [List.getElem?_append_left (by omega)]; exact hb, hs⟩
  ·obtain rfl : k = n := by omega
   exact ⟨a, by rw [List.getElem?_append_right (by omega), hl]; simp, ha⟩
section
variable {H : Type} {enc : TypeId × Value → H} {P : Program} {W : World}
theorem open_rowsG {α : Type} (R : Lay α) {T E : TypeId} {fuel : Nat} {cs : List Value} {x : DataW H × List MemPlace} (hT : P.underlying T = some (.slice E)) (hC : P.cellsOf E = R.s) (q : α → Prop)
  (hread : ∀ fuel cs x, DataW.trod enc P W 0 (fun _ => true) true fuel E cs = some x → ∃ a, cs = R.cel a ∧ q a)
  (hf : DataW.trod enc P W 0 (fun _ => true) true fuel T cs = some x) :
  ∃ A len cap L, cs = [.slice A len cap] ∧ L.length = len ∧ len ≤ 9223372036854775807 ∧ RowAt R W A L ∧ ∀ a ∈ L, q a := by
 rcases open_slice hT hf with ⟨hcs, -⟩ | ⟨a, len, cap, m, n, D, Pl, hcs, -, hl, hm, hmm, -, hx⟩
 ·exact ⟨none, 0, 0, [], hcs, rfl, by omega, RowAt.nil, fun a ha => by cases ha⟩
 ·simp only [if_true] at hmm
  subst hmm
  unfold maxLen at hm
  have key : ∀ k, k < len → ∃ y : α, (∀ j v, (R.cel y)[j]? = some v → W.cell? (a.add (k * R.s + j)) = some v) ∧ q y := by
   intro k hk
   obtain ⟨cs', h1, h2⟩ := hx k (by omega)
   rw [hC] at h1
   obtain ⟨_, hlen, hcell⟩ := World.cells?_some h1
   obtain ⟨y, rfl, hq⟩ := hread _ _ _ h2
   refine ⟨y, fun j v hj => ?_, hq⟩
   have hjl : j < (R.cel y).length := (List.getElem?_eq_some_iff.1 hj).1
   have h4 := hcell j (by rw [R.len] at hjl; omega)
   rw [add_add] at h4
   rw [h4, hj]
  obtain ⟨L, hLl, hL⟩ := list_of_all len key
  obtain ⟨b, off, spot⟩ := a
  refine ⟨_, len, _, L, hcs, hLl, by omega, fun h0 => ?_, fun y hy => ?_⟩
  ·rw [hLl] at h0
   obtain ⟨y0, hy0, hc0, -⟩ := hL 0 h0
   have hz0 := hc0 0 _ (List.getElem?_eq_getElem (by rw [R.len]; exact R.pos))
   have hspot : spot = none := by simpa [Addr.add] using World.cell?_spot hz0
   subst hspot
   have hlt : b < W.heap.size := by
    rcases Nat.lt_or_ge b W.heap.size with hlt | hge
    ·exact hlt
    ·unfold World.cell? at hz0
     rw [show (Addr.add ⟨b, off, none⟩ (0 * R.s + 0)).block = b from by rw [block_add], Array.getElem?_eq_none hge] at hz0
     simp at hz0
   refine ⟨b, off, rfl, hlt, fun j v hj => ?_⟩
   have hjl : j < len * R.s := by
    rw [← hLl, ← R.all_len]
    exact (List.getElem?_eq_some_iff.1 hj).1
   have hs := R.pos
   have hi : j / R.s < len := Nat.div_lt_of_lt_mul (by rw [Nat.mul_comm]; exact hjl)
   obtain ⟨y, hy, hc, -⟩ := hL (j / R.s) hi
   have hr : j % R.s < R.s := Nat.mod_lt _ hs
   have he : j / R.s * R.s + j % R.s = j := by rw [Nat.mul_comm]; exact Nat.div_add_mod _ _
   have h5 := hc (j % R.s) v (by rw [← R.get L (j / R.s) y hy _ hr, he]; exact hj)
   rw [he, Go.WideShapes.add_plain] at h5
   exact h5
  ·obtain ⟨k, hk⟩ := List.getElem?_of_mem hy
   have hkl : k < len := by rw [← hLl]; exact (List.getElem?_eq_some_iff.1 hk).1
   obtain ⟨z, hz, -, hq⟩ := hL k hkl
   rw [hk] at hz
   injection hz with hz
   subst hz
   exact hq
end
structure EtyW (x : Ety) : Prop where
 id : (Lit.int .i64 x.id).wf = true
 ent : (Lit.int .i64 x.ent).wf = true
 day : (Lit.int .i64 x.day).wf = true
 kind : (Lit.int .i64 x.kind).wf = true
 of_ : (Lit.int .i64 x.of_).wf = true
section
variable {H : Type} {enc : TypeId × Value → H} {W : World}
set_option maxRecDepth 100000 in
theorem open_etyC {fuel : Nat} {cs : List Value} {x : DataW H × List MemPlace} (hf : DataW.trod enc Tryz.prog W 0 (fun _ => true) true fuel 46 cs = some x) : ∃ a : Ety × List Lnk, cs = etyC a.1 ∧ EtyK W a.1 a.2 ∧ a.1.n ≤ 9223372036854775807 ∧ a.1.txt.size ≤ maxLen ∧ EtyW a.1 := by
 obtain ⟨xs, n', -, -, hlen, hxl, hff⟩ := DataW.trod_struct Tryz.underlying46 hf
 have hC : Tryz.prog.cellsOf 46 = 7 := by kernel_rfl
 rw [hC] at hlen
 obtain ⟨c0, c1, c2, c3, c4, c5, c6, e7⟩ := cellsE7 hlen
 have hxl' : xs.length = 7 := hxl
 have hget : ∀ i, i < 7 → ∃ y, xs[i]? = some y := fun i hi => ⟨_, List.getElem?_eq_getElem (by omega)⟩
 have ki : Tryz.prog.cellsOf 3 = 1 := by kernel_rfl
 have kl : Tryz.prog.cellsOf 44 = 1 := by kernel_rfl
 have ks : Tryz.prog.cellsOf 9 = 1 := by kernel_rfl
 have h0 : DataW.trod enc Tryz.prog W 0 (fun _ => true) true n' 3 ((cs.drop 0).take (Tryz.prog.cellsOf 3)) = xs[0]? := hff 0 _ rfl
 obtain ⟨y0, e0⟩ := hget 0 (by omega)
 rw [e0, ki, e7] at h0
 have h1 : DataW.trod enc Tryz.prog W 0 (fun _ => true) true n' 3 ((cs.drop 1).take (Tryz.prog.cellsOf 3)) = xs[1]? := hff 1 _ rfl
 obtain ⟨y1, e1⟩ := hget 1 (by omega)
 rw [e1, ki, e7] at h1
 have h2 : DataW.trod enc Tryz.prog W 0 (fun _ => true) true n' 3 ((cs.drop 2).take (Tryz.prog.cellsOf 3)) = xs[2]? := hff 2 _ rfl
 obtain ⟨y2, e2⟩ := hget 2 (by omega)
 rw [e2, ki, e7] at h2
 have h3 : DataW.trod enc Tryz.prog W 0 (fun _ => true) true n' 3 ((cs.drop 3).take (Tryz.prog.cellsOf 3)) = xs[3]? := hff 3 _ rfl
 obtain ⟨y3, e3⟩ := hget 3 (by omega)
 rw [e3, ki, e7] at h3
 have h4 : DataW.trod enc Tryz.prog W 0 (fun _ => true) true n' 3 ((cs.drop 4).take (Tryz.prog.cellsOf 3)) = xs[4]? := hff 4 _ rfl
 obtain ⟨y4, e4⟩ := hget 4 (by omega)
 rw [e4, ki, e7] at h4
 have h5 : DataW.trod enc Tryz.prog W 0 (fun _ => true) true n' 9 ((cs.drop 5).take (Tryz.prog.cellsOf 9)) = xs[5]? := hff 5 _ rfl
 obtain ⟨y5, e5⟩ := hget 5 (by omega)
 rw [e5, ks, e7] at h5
 have h6 : DataW.trod enc Tryz.prog W 0 (fun _ => true) true n' 44 ((cs.drop 6).take (Tryz.prog.cellsOf 44)) = xs[6]? := hff 6 _ rfl
 obtain ⟨y6, e6⟩ := hget 6 (by omega)
 rw [e6, kl, e7] at h6
 obtain ⟨z0, q0, -, w0⟩ := DataW.trod_int Tryz.underlying3 h0
 have a0 : c0 = .int .i64 z0 := by simpa using q0
 obtain ⟨z1, q1, -, w1⟩ := DataW.trod_int Tryz.underlying3 h1
 have a1 : c1 = .int .i64 z1 := by simpa using q1
 obtain ⟨z2, q2, -, w2⟩ := DataW.trod_int Tryz.underlying3 h2
 have a2 : c2 = .int .i64 z2 := by simpa using q2
 obtain ⟨z3, q3, -, w3⟩ := DataW.trod_int Tryz.underlying3 h3
 have a3 : c3 = .int .i64 z3 := by simpa using q3
 obtain ⟨z4, q4, -, w4⟩ := DataW.trod_int Tryz.underlying3 h4
 have a4 : c4 = .int .i64 z4 := by simpa using q4
 obtain ⟨z5, q5, -, bt⟩ := DataW.trod_string Tryz.underlying9 h5
 have a5 : c5 = .string z5 := by simpa using q5
 obtain ⟨A, n, c, X, q6, lx, hmx, hz, ok⟩ := open_wlineK h6
 have a6 : c6 = .slice A n c := by simpa using q6
 subst a0 a1 a2 a3 a4 a5 a6
 exact ⟨(⟨z0, z1, z2, z3, z4, z5, A, n, c⟩, X), e7, ⟨lx, hz, ok⟩, hmx, bt, ⟨w0, w1, w2, w3, w4⟩⟩
set_option maxRecDepth 100000 in
theorem open_ietys {b0 : Nat} {v : Value} {d : DataW H} {p : List MemPlace} (hval : Value.okWide Tryz.prog W .any b0 30 v) (h : DataW.Trod enc Tryz.prog W 0 (fun _ => true) true 30 v d p) :
  ∃ A len c, v = .slice A len c ∧ ∃ Xs : List (Ety × List Lnk), Xs.length = len ∧ len ≤ 9223372036854775807 ∧ RowAt lyX W A (Xs.map (·.1)) ∧ ∀ a ∈ Xs, EtyK W a.1 a.2 ∧ a.1.n ≤ 9223372036854775807 ∧ a.1.txt.size ≤ maxLen ∧ EtyW a.1 := by
 obtain ⟨a0, len, cap, rfl⟩ := okWide_slice Tryz.underlying30 hval
 obtain ⟨fuel, hf⟩ := h
 obtain ⟨A, len', c, Xs, hcs, hl, hm, hr, hq⟩ := open_rowsG (α := Ety × List Lnk) ⟨fun a => etyC a.1, 7, fun _ => rfl, fun a v hv => lyX.one a.1 v hv, by decide⟩ Tryz.underlying30 (by kernel_rfl) (fun a => EtyK W a.1 a.2 ∧ a.1.n ≤ 9223372036854775807 ∧ a.1.txt.size ≤ maxLen ∧ EtyW a.1) (fun _ _ _ h => open_etyC h) hf
 simp [Value.cells] at hcs
 obtain ⟨rfl, rfl, rfl⟩ := hcs
 refine ⟨_, _, _, rfl, Xs, hl, hm, fun h0 => ?_, hq⟩
 obtain ⟨b, off, e, hlt, hc⟩ := hr (by simpa using h0)
 refine ⟨b, off, e, hlt, fun j v hj => hc j v ?_⟩
 rw [← hj]
 unfold Lay.all
 rw [List.flatMap_map]
 rfl
end
theorem three_ofA {α : Type} (l : List α) (h : (⟨l⟩ : Array α).size = 3) : ∃ a b c, l = [a, b, c] := by
 match l, h with
 | [a, b, c], _ => exact ⟨a, b, c, rfl⟩
section
variable {H : Type} {enc : TypeId × Value → H} {P : Program} {w : World} {r : Reach} {b0 base : Nat} {t e : TypeId} {k : IntKind} {spare : Nat → Bool} {held : Bool} {v : Value} {d : DataW H} {ps : List MemPlace}
theorem open_iarr3 (ht : P.underlying t = some (.array 3 e)) (he : P.underlying e = some (.int k)) (hce : P.cellsOf e = 1) (hct : P.cellsOf t = 3) (hval : Value.okWide P w r b0 t v) (hd : DataW.Trod enc P w base spare held t v d ps) :
  ∃ x y z, v = .agg #[.int k x, .int k y, .int k z] ∧ (Lit.int k x).wf = true ∧ (Lit.int k y).wf = true ∧ (Lit.int k z).wf = true := by
 obtain ⟨cs, rfl, hsz, _⟩ : ∃ cs, v = .agg cs ∧ cs.size = P.cellsOf t ∧ Row.okWide P w r b0 t cs := by
  simpa [Value.okWide, ht] using hval
 rw [hct] at hsz
 obtain ⟨l⟩ := cs
 obtain ⟨c0, c1, c2, rfl⟩ := three_ofA l hsz
 obtain ⟨fuel, hf⟩ := hd
 obtain ⟨xs, m, _, hx, _, hl, hel⟩ := DataW.trod_array ht hf
 match xs, hl, hx, hel with
 | [q0, q1, q2], _, hx, hel =>
  have e0 := hel 0 (by omega)
  have e1 := hel 1 (by omega)
  have e2 := hel 2 (by omega)
  rw [hce] at e0 e1 e2
  obtain ⟨x, h0, h0', w0⟩ := DataW.trod_int he (by simpa [Value.cells] using e0 : DataW.trod enc P w base spare held m e [c0] = some q0)
  obtain ⟨y, h1, h1', w1⟩ := DataW.trod_int he (by simpa [Value.cells] using e1 : DataW.trod enc P w base spare held m e [c1] = some q1)
  obtain ⟨z, h2, h2', w2⟩ := DataW.trod_int he (by simpa [Value.cells] using e2 : DataW.trod enc P w base spare held m e [c2] = some q2)
  simp at h0 h1 h2
  subst h0 h1 h2
  exact ⟨x, y, z, rfl, w0, w1, w2⟩
end
open Go.RowKit
theorem few_is {g : Grp} {G : List Ent} {Xs : List Etl} (h : (fewX Xs && few10 g G) = true) : Sm g G ∧ Xs.length ≤ 61 ∧ ∀ p ∈ Xs, p.1.n ≤ 60 := by
 rw [Bool.and_eq_true] at h
 obtain ⟨h1, h2⟩ := h
 unfold fewX at h1
 rw [Bool.and_eq_true, decide_eq_true_eq] at h1
 refine ⟨few_sm h2, h1.2, fun p hp => ?_⟩
 have h3 := List.all_eq_true.1 h1.1 p hp
 unfold fewE at h3
 simp only [Bool.and_eq_true, Bool.not_eq_true', Bool.or_eq_false_iff, decide_eq_false_iff_not] at h3
 omega
def getE (Es : List PE) (id : Int) : Option PE := Es.find? fun e => decide (e.id = id)
theorem idx_get : ∀ (Es : List PE) (id : Int), Es[idxP Es id]? = getE Es id
 | [], _ => rfl
 | e :: Es, id => by
  have ih := idx_get Es id
  unfold idxP getE at ih ⊢
  by_cases h : e.id = id
  ·rw [List.findIdx_cons, List.find?_cons]; simp [h]
  ·rw [List.findIdx_cons, List.find?_cons]; simp [h]; exact ih
theorem idx_lt (Es : List PE) (id : Int) : idxP Es id < Es.length ↔ (getE Es id).isSome = true := by
 rw [← idx_get]
 constructor
 ·intro h; rw [List.getElem?_eq_getElem h]; rfl
 ·intro h
  obtain ⟨e, he⟩ := Option.isSome_iff_exists.1 h
  exact (List.getElem?_eq_some_iff.1 he).1
theorem getE_app (Es Fs : List PE) (id : Int) : getE (Es ++ Fs) id = (getE Es id).or (getE Fs id) := by unfold getE; rw [List.find?_append]
theorem getE_one (x : PE) (id : Int) : getE [x] id = if x.id = id then some x else none := by
 unfold getE
 rw [List.find?_cons]
 by_cases h : x.id = id <;> simp [h]
theorem revO_app (Es Fs : List PE) (id : Int) : revO (Es ++ Fs) id = (revO Es id).or (revO Fs id) := by unfold revO; rw [List.find?_append]
theorem revO_one (x : PE) (id : Int) : revO [x] id = if isRv id x = true then some x else none := by
 unfold revO
 rw [List.find?_cons]
 by_cases h : isRv id x = true <;> simp [h]
def PosE (Es : List PE) : Prop := ∀ e ∈ Es, 1 ≤ e.id
theorem rev_ne {Es : List PE} (h : PosE Es) (id : Int) : revP Es id ≠ 0 ↔ (revO Es id).isSome = true := by
 unfold revP
 cases hr : revO Es id with
 | none => simp
 | some e =>
  have := h e (List.mem_of_find?_eq_some hr)
  simp
  omega
def RvOk (Es : List PE) (x : PE) : Prop := x.kind = 3 → ∃ e, getE Es x.of_ = some e ∧ e.kind ≠ 3 ∧ revO Es x.of_ = none ∧ e.ent = x.ent ∧ ¬ x.day < e.day ∧ oppB x.ls e.ls = true
theorem rvE_ok {Es : List PE} (hp : PosE Es) (x : PE) : rvE Es x = 0 ↔ RvOk Es x := by
 unfold rvE RvOk
 by_cases hk : x.kind = 3
 ·rw [if_pos hk, idx_get]
  cases hg : getE Es x.of_ with
  | none => simp [hk]
  | some e =>
   have hr := rev_ne hp x.of_
   simp only [hk, true_implies]
   by_cases h1 : e.kind = 3
   ·simp [h1]
   ·by_cases h2 : revP Es x.of_ = 0
    ·have h3 : revO Es x.of_ = none := by
      cases h4 : revO Es x.of_ with
      | none => rfl
      | some y => exact absurd h2 (hr.2 (by rw [h4]; rfl))
     by_cases h5 : e.ent = x.ent <;> by_cases h6 : x.day < e.day <;> by_cases h7 : oppB x.ls e.ls = true <;> first | (simp [h1, h2, h3, h5, h6, h7]; done) | (simp [h1, h2, h3, h5, h6, h7]; omega)
    ·have h3 : revO Es x.of_ ≠ none := fun h4 => by
      have := hr.1 h2
      rw [h4] at this; cases this
     simp [h1, h2, h3]
 ·rw [if_neg hk]; simp [hk]
theorem post_ok {c : Int} {Es : List PE} (hp : PosE Es) (x : PE) : postE c Es x = 0 ↔ c = 0 ∧ getE Es x.id = none ∧ RvOk Es x ∧ Es.length < 2000 := by
 have h9 : idxP Es x.id < Es.length ↔ getE Es x.id ≠ none := by rw [idx_lt]; cases getE Es x.id <;> simp
 constructor
 ·intro h
  obtain ⟨h0, h1, h2, h3⟩ := fst4_zero h
  refine ⟨h0, ?_, (rvE_ok hp x).1 h2, ?_⟩
  ·cases h4 : getE Es x.id with
   | none => rfl
   | some e => rw [if_pos (h9.2 (by rw [h4]; simp))] at h1; cases h1
  ·rcases Nat.lt_or_ge Es.length 2000 with h5 | h5
   ·exact h5
   ·rw [if_pos h5] at h3; cases h3
 ·rintro ⟨h0, h1, h2, h3⟩
  unfold postE fst4
  rw [if_pos h0, if_neg (fun h4 => h9.1 h4 h1), if_pos rfl, (rvE_ok hp x).2 h2, if_pos rfl, if_neg (by omega)]
def pst (ck : Etl → Int) (Xs : List Etl) (i : Nat) : Int := match Xs[i]? with | some p => postE (ck p) ((Xs.take i).map pe) (pe p) | none => 0
def vldB (ck : Etl → Int) (Xs : List Etl) : Bool := allTo (fun i => decide (pst ck Xs i = 0)) Xs.length
theorem vldB_is {ck : Etl → Int} {Xs : List Etl} : vldB ck Xs = true ↔ ∀ i, i < Xs.length → pst ck Xs i = 0 := by
 unfold vldB
 rw [allTo_is]
 simp
theorem pst_app {ck : Etl → Int} {X Y : List Etl} {i : Nat} (h : i < X.length) : pst ck (X ++ Y) i = pst ck X i := by
 unfold pst
 rw [List.getElem?_append_left h, List.take_append_of_le_length (Nat.le_of_lt h)]
theorem pst_last (ck : Etl → Int) (X : List Etl) (p : Etl) : pst ck (X ++ [p]) X.length = postE (ck p) (X.map pe) (pe p) := by
 unfold pst
 rw [List.getElem?_append_right (Nat.le_refl _), Nat.sub_self, List.take_left' rfl]
 rfl
theorem vld_snoc {ck : Etl → Int} {X : List Etl} {p : Etl} : vldB ck (X ++ [p]) = true ↔ vldB ck X = true ∧ postE (ck p) (X.map pe) (pe p) = 0 := by
 rw [vldB_is, vldB_is]
 constructor
 ·intro h
  exact ⟨fun i hi => by rw [← pst_app (Y := [p]) hi]; exact h i (by simp; omega), by rw [← pst_last]; exact h _ (by simp)⟩
 ·rintro ⟨h1, h2⟩ i hi
  rw [List.length_append, List.length_singleton] at hi
  rcases Nat.lt_or_ge i X.length with h3 | h3
  ·rw [pst_app h3]; exact h1 i h3
  ·obtain rfl : i = X.length := by omega
   rw [pst_last]; exact h2
theorem vld_ck {ck : Etl → Int} {Xs : List Etl} (h : vldB ck Xs = true) : ∀ p ∈ Xs, ck p = 0 := by
 intro p hp
 obtain ⟨i, hi, rfl⟩ := List.getElem_of_mem hp
 have h1 := vldB_is.1 h i hi
 unfold pst at h1
 rw [List.getElem?_eq_getElem hi] at h1
 exact (fst4_zero h1).1
theorem vld_pos {ck : Etl → Int} (hck : ∀ p, ck p = 0 → 1 ≤ p.1.id) {Xs : List Etl} (h : vldB ck Xs = true) : PosE (Xs.map pe) := by
 intro e he
 obtain ⟨p, hp, rfl⟩ := List.mem_map.1 he
 exact hck p (vld_ck h p hp)
def jck (g : Grp) (L : List Acc) (G : List Ent) (p : Etl) : Int := rchkN (shpB (grpR g L G) g p.1 p.2) (acB (G.getD p.1.ent.toNat ent0).L p.2) (rtlN g p.1 p.2)
theorem jck_id {g : Grp} {L : List Acc} {G : List Ent} {p : Etl} (h : jck g L G p = 0) : 1 ≤ p.1.id := by
 unfold jck rchkN at h
 split at h
 ·rename_i h1
  unfold shpB at h1
  simp only [Bool.and_eq_true, decide_eq_true_eq] at h1
  exact h1.2.1
 ·cases h
def PsV (g : Grp) (L : List Acc) (G : List Ent) (Xs : List Etl) (w2 : World) (e : Ending) (W : World) : Prop :=
 if grpP g L G = true then ∃ jb j M Os A c, e = .returned (.tuple #[.pointer (some ⟨jb, 0, none⟩), .slice A Os.length c, .bool true]) ∧ PS g L G Xs w2 Xs.length Os jb j M (.slice A Os.length c) W ∧ vldB (jck g L G) Os = true
 else e = .returned (.tuple #[.pointer none, .slice none 0 0, .bool true])
set_option maxRecDepth 100000 in
set_option maxHeartbeats 25600000 in
theorem postedv_any (g : Grp) (L : List Acc) (G : List Ent) (A : Option Addr) (c : Nat) (Xs : List Etl) (w : World) (hk : GrK w g L G) (hs : Sm g G) (hw : GrW g L G) (hz : RowAt lyX w A (Xs.map (·.1))) (hzs : EtysK w Xs) (hl : Xs.length ≤ 100) (hxs : ∀ p ∈ Xs, p.1.n ≤ 1000 ∧ p.1.txt.size ≤ maxLen ∧ (Lit.int .i64 p.1.id).wf = true ∧ (Lit.int .i64 p.1.of_).wf = true) :
  Calls Tryz.prog 15 #[grpV g, .slice A Xs.length c] w fun e W => ∃ w2, Below w.heap.size w w2 ∧ PsV g L G Xs w2 e W ∧ Below w2.heap.size w2 W := by
 have HNW := Lib.hid (fun W (h : GrK W g L G) => new_any g L G W h hs hw)
 have HRV := Lib.hid (fun W (h : GrK W g L G) => rvalid10_any g L G W h hs hw)
 have HSM := Lib.hid hs
 have HGW := Lib.hid hw
 obtain ⟨n, hnn⟩ : ∃ n, Xs.length = n := ⟨_, rfl⟩
 obtain ⟨GV, hGV⟩ : ∃ GV, GV = grpV g := ⟨_, rfl⟩
 rw [← hGV] at HNW HRV
 have HGV := Lib.hid hGV
 obtain ⟨gs, hgs⟩ : ∃ gs, (grpC g).toArray = gs := ⟨_, rfl⟩
 rw [show grpV g = .agg gs by rw [grpV_is, hgs]]
 obtain ⟨s0, hs0⟩ : ∃ s0, w.heap.size = s0 := ⟨_, rfl⟩
 obtain ⟨w2, hw2⟩ : ∃ w2, w.alloc (.cells gs 29) = w2 := ⟨_, rfl⟩
 have HGB : Hid (Wh 29 w2 s0 (grpC g)) := Lib.hid (by rw [← hw2, ← hgs, ← hs0]; exact Wh.new w _ _)
 have HB2 : Hid (Below w.heap.size w w2) := Lib.hid (by rw [← hw2]; exact below_alloc_new _)
 have HKC := Lib.hid (hk.up HB2.out)
 have HS0 := Lib.hid hs0
 have HZ2 := Lib.hid (hz.up HB2.out)
 have HZS := Lib.hid (hzs.up HB2.out)
 have HXS := Lib.hid hxs
 have HNN := Lib.hid hnn
 have HL100 : Hid (n ≤ 100) := Lib.hid (by rw [← hnn]; exact hl)
 have HLG : Hid (∀ W, Below w2.heap.size w2 W → (Instr.loadAt 29 (.pointer (some ⟨s0, 0, none⟩))).run Tryz.prog W = .ok GV W) := Lib.hid (fun W h => by rw [hGV, grpV_is]; exact (HGB.out.up h).rg.load 0 29 (grpC g) rfl _ Tryz.underlying29 rfl (by kernel_rfl))
 have HQ : Hid (∀ e W, PsV g L G Xs w2 e W → Below w2.heap.size w2 W → ∃ w2, Below w.heap.size w w2 ∧ PsV g L G Xs w2 e W ∧ Below w2.heap.size w2 W) := Lib.hid (fun e W h h2 => ⟨w2, HB2.out, h, h2⟩)
 rw [hnn]
 clear hk hs hw hz hzs hl hxs hnn hgs hGV
 have HM1 : True := trivial
 have HM2 : True := trivial
 cases hv : grpP g L G
 ·have hrv : grpR g L G = false := (grp_eq g L G).symm.trans hv
  rw [hrv] at HRV
  have HNQ : Hid (∀ B e w', NewP g L G B e w' → e = .returned (.tuple #[.pointer none, .int .i64 1])) := Lib.hid (fun B e w' h => by unfold NewP at h; rw [hv] at h; simpa using h)
  have HPQ : Hid (∀ W, PsV g L G Xs w2 (.returned (.tuple #[.pointer none, .slice none 0 0, .bool true])) W) := Lib.hid (fun W => by unfold PsV; rw [hv]; rfl)
  clear hv hrv
  go_enter Tryz.func15, Tryz.ntmps15
  go_wp2_with (first
   | (clear HM1; refine wpList_load_is rfl 29 _ rfl (.pointer (some ⟨s0, 0, none⟩)) rfl GV (HLG.out _ (Below.refl _ _)) ?_)
   | (go_at_call 41; refine (HNW.out _ HKC.out).mono ?_; rintro e w3 ⟨hq, hb⟩; obtain rfl := HNQ.out _ _ _ hq; clear hq; have HB3 := Lib.hid hb; clear hb)
   | (clear HM2; refine wpList_load_if (by rfl) 29 _ rfl (.pointer (some ⟨s0, 0, none⟩)) rfl GV (HLG.out _ HB3.out) ?_)
   | (go_at_call 44; refine (HRV.out _ (HKC.out.up HB3.out)).mono ?_; rintro e w4 ⟨rfl, hb⟩; have HB4 := Lib.hid (HB3.out.trans (hb.mono HB3.out.size)); clear hb))
  go_ret3
  exact HQ.out _ _ (HPQ.out _) HB4.out
 ·have HV := Lib.hid hv
  have HNQ : Hid (∀ B e w', NewP g L G B e w' → ∃ j M, e = .returned (.tuple #[.pointer (some ⟨j.b, 0, none⟩), .int .i64 0]) ∧ JK M B w' j ∧ j.Xs = [] ∧ (∀ k, M k → B ≤ k ∧ k < w'.heap.size) ∧ BareD g L G j) := Lib.hid (fun B e w' h => by unfold NewP at h; rw [hv, if_pos rfl] at h; exact h)
  clear hv
  go_enter Tryz.func15, Tryz.ntmps15
  go_wp2_with (first
   | (clear HM1; refine wpList_load_is rfl 29 _ rfl (.pointer (some ⟨s0, 0, none⟩)) rfl GV (HLG.out _ (Below.refl _ _)) ?_)
   | (go_at_call 41; refine (HNW.out _ HKC.out).mono ?_; rintro e w3 ⟨hq, hb⟩; obtain ⟨j0, M0, rfl, hj0, hx0, hm0, hd0⟩ := HNQ.out _ _ _ hq; clear hq; have HP0 := Lib.hid (PS.start (Xs := Xs) hj0 hx0 hm0 hd0 hb); clear hb hj0 hx0 hm0 hd0))
  obtain ⟨jb, hjb⟩ : ∃ jb, j0.b = jb := ⟨_, rfl⟩
  rw [hjb] at HP0 ⊢
  clear hjb
  go_loopg [9, 10] n (fun kx s9 s10 wr => ∃ (i : Nat), s10 = .int .i64 (i : Int) ∧ i ≤ n ∧ n - i ≤ kx ∧ Hid (∃ Os j M, PS g L G Xs w2 i Os jb j M s9 wr ∧ vldB (jck g L G) Os = true))
  case atStart => exact ⟨0, rfl, by omega, by omega, Lib.hid ⟨[], j0, M0, HP0.out, rfl⟩⟩
  case round =>
   obtain ⟨i, rfl, hi, hkx, HL⟩ := hrel
   obtain ⟨Os, j, M, hps, hvd⟩ := HL.out
   have HVD := Lib.hid hvd
   clear hvd
   clear HL
   obtain ⟨A9, c9, e9, hr9, -⟩ := hps.ow.reads
   obtain ⟨o9, ho9⟩ : ∃ o9, (Os.map (·.1)).length = o9 := ⟨_, rfl⟩
   rw [ho9] at e9
   subst e9
   have HO9 : Hid (Os.length = o9) := Lib.hid (by rw [← ho9, List.length_map])
   clear ho9 hr9
   by_cases hlt : i < n
   ·have hltz : (i : Int) < (n : Int) := by omega
    obtain ⟨p, hp⟩ : ∃ p, Xs[i]? = some p := ⟨_, List.getElem?_eq_getElem (by rw [HNN.out]; exact hlt)⟩
    have hpm := List.mem_of_getElem? hp
    have hym : (Xs.map (·.1))[i]? = some p.1 := by rw [List.getElem?_map, hp]; rfl
    have hkk := HZS.out p hpm
    obtain ⟨hp1, hp2, hp3, hp4⟩ := HXS.out p hpm
    obtain ⟨bb, off, hA, hbl, hrg⟩ := HZ2.out.at hym
    subst hA
    obtain ⟨x, X⟩ := p
    obtain ⟨XV, hXV⟩ : ∃ XV, XV = etyV x := ⟨_, rfl⟩
    have HLX : Hid (∀ W, Below w2.heap.size w2 W → (Instr.loadAt 46 (.pointer (some ⟨bb, off + i * 7, none⟩))).run Tryz.prog W = .ok XV W) := Lib.hid (fun W hW => by rw [hXV, etyV_is]; exact run_loadAt_mid W bb (off + i * 7) 46 (etyC x) _ (fun jj v hv => (hW.cell (p := ⟨bb, off + i * 7 + jj, none⟩) hbl).trans (hrg jj v hv)) Tryz.underlying46 rfl (by kernel_rfl))
    have HEK : Hid (∀ W, Below w2.heap.size w2 W → EtyK W x X) := Lib.hid (fun W hW => hkk.up hW)
    have HIZ := Lib.hid hltz
    have HPS := Lib.hid hps
    obtain ⟨E, hE⟩ : ∃ E, postE (rchkN (shpB (grpR g L G) g x X) (acB (G.getD x.ent.toNat ent0).L X) (rtlN g x X)) (Os.map pe) (pe (x, X)) = E := ⟨_, rfl⟩
    have HOX := Lib.hid (fun (h0 : E = 0) => rchk_ok (postE_zero (by rw [← hps.es]; exact hps.jk.good) (hE.trans h0)).1)
    have HOV := Lib.hid (fun (h0 : E = 0) => (vld_snoc (ck := jck g L G) (X := Os) (p := (x, X))).2 ⟨HVD.out, hE.trans h0⟩)
    have hcb := chk_bare hps.bd HV.out HKC.out.lg x X hkk.ln
    have HRP : Hid (∀ W, PS g L G Xs w2 i Os jb j M (.slice A9 o9 c9) W → Calls Tryz.prog 28 #[GV, .slice A9 o9 c9, XV] W fun e w' => e = .returned (.int .i64 E) ∧ Below W.heap.size W w') := Lib.hid (fun W h => by
     obtain ⟨A8, c8, e8, hr8, -⟩ := h.ow.reads
     injection e8 with e8 _ _
     have h9 := r12post_any g L G A9 c9 Os x X W (HKC.out.up h.low) HSM.out HGW.out (by rw [e8]; exact hr8) (fun p hp => (HZS.out p (h.sub p hp)).up h.low) (fun p hp => by rw [(HZS.out p (h.sub p hp)).ln]; exact (HXS.out p (h.sub p hp)).1) (by have := h.ln; have := HL100.out; omega) (HEK.out _ h.low) hp1 hp2
     rw [hE, ← HGV.out, ← hXV, HO9.out] at h9
     exact h9)
    have HPO : Hid (∀ W, PS g L G Xs w2 i Os jb j M (.slice A9 o9 c9) W → Calls Tryz.prog 24 #[.pointer (some ⟨jb, 0, none⟩), XV] W fun e w' => e = .returned (.int .i64 E) ∧ PostQ E M w2.heap.size j x X W w') := Lib.hid (fun W h => by
     have h9 := jpost_any (B := w2.heap.size) j x X W h.jk (HEK.out _ h.low) hp1 hp3 hp4 h.low.size (by have := h.len; have := HL100.out; omega) (fun k hk => (h.mw k hk).2)
     rw [hcb, h.es, hE, ← hXV, h.jb] at h9
     exact h9)
    have HPM := Lib.hid hpm
    have HXV := Lib.hid hXV
    clear hp hym hkk hrg hbl hpm hps hcb hE hp1 hp2 hp3 hp4 hXV
    go_upto_region 8 with fail
    refine AK.region_facts (Rp := Below0) (Kp := Below0) (pstF bb off n c s0 o9 c9 i A9 E GV XV) (fun _ _ W => Below wr.heap.size wr W) [[], [], [], [], [42, 43], [44], [40, 41, 45], [46]] [] [[]] [0, 0, 0, 0, 0, 0, 0, 0] [0, 0, 0, 0, 0, 0, 0, 0] [] (fun u => by simp only [pstF, AK.temps, List.map_cons, List.map_nil, fillL, List.setIfInBounds_toArray, List.set_cons_zero, List.set_cons_succ]; rfl) (by kernel_rfl) (by kernel_rfl) (fun _ _ h => h.size) (fun _ _ h => h) (fun _ _ _ _ hb h => h.trans (hb.mono h.size)) (dc_drew (Below.refl _ _)) ?_ ?_
    ·refine AK.sc (lim := 0) (lo := 0) rfl rfl rfl rfl ?_ ?_
     ·intro k_ u w_ hk_ hl_ hJ hF K hK
      clear hF
      refine wp_load_is 29 _ rfl (.pointer (some ⟨s0, 0, none⟩)) rfl GV (HLG.out _ (HPS.out.up hJ).low) ?_
      exact hK.out _ _ (Below.refl _ _) rfl trivial
     refine AK.sc (lim := 0) (lo := 0) rfl rfl rfl rfl ?_ ?_
     ·intro k_ u w_ hk_ hl_ hJ hF K hK
      clear hF
      go_simp
      exact hK.out _ _ (Below.refl _ _) (rfl) trivial
     refine AK.sc (lim := 0) (lo := 0) rfl rfl rfl rfl ?_ ?_
     ·intro k_ u w_ hk_ hl_ hJ hF K hK
      clear hF
      go_simp
      exact hK.out _ _ (Below.refl _ _) (rfl) trivial
     refine AK.sc (lim := 0) (lo := 0) rfl rfl rfl rfl ?_ ?_
     ·intro k_ u w_ hk_ hl_ hJ hF K hK
      clear hF
      go_simp
      exact hK.out _ _ (Below.refl _ _) (rfl) trivial
     refine AK.sc (lim := 0) (lo := 0) rfl rfl rfl rfl ?_ ?_
     ·intro k_ u w_ hk_ hl_ hJ hF K hK
      have h42 : u 42 = .slice (some ⟨bb, off, none⟩) n c := AK.facts_get hF 42 (by simp)
      have h43 : u 43 = .int .i64 (i : Int) := AK.facts_get hF 43 (by simp)
      clear hF
      simp only [h42, h43] at hK ⊢
      clear h42 h43
      have hz_ := HIZ.out
      go_simp
      exact hK.out _ _ (Below.refl _ _) (rfl) trivial
     refine AK.sc (lim := 0) (lo := 0) rfl rfl rfl rfl ?_ ?_
     ·intro k_ u w_ hk_ hl_ hJ hF K hK
      have h44 : u 44 = .pointer (some ⟨bb, off + i * 7, none⟩) := AK.facts_get hF 44 (by simp)
      clear hF
      simp only [h44] at hK ⊢
      clear h44
      refine wp_load_is 46 _ rfl (.pointer (some ⟨bb, off + i * 7, none⟩)) rfl XV (HLX.out _ (HPS.out.up hJ).low) ?_
      exact hK.out _ _ (Below.refl _ _) rfl trivial
     refine AK.sc (lim := 0) (lo := 0) rfl rfl rfl rfl ?_ ?_
     ·intro k_ u w_ hk_ hl_ hJ hF K hK
      have h40 : u 40 = GV := AK.facts_get hF 40 (by simp)
      have h41 : u 41 = .slice A9 o9 c9 := AK.facts_get hF 41 (by simp)
      have h45 : u 45 = XV := AK.facts_get hF 45 (by simp)
      clear hF
      simp only [h40, h41, h45] at hK ⊢
      clear h40 h41 h45
      go_simp
      refine (HRP.out _ (HPS.out.up hJ)).mono ?_
      rintro r w6 ⟨rfl, hb6⟩
      exact hK.out _ _ hb6 rfl trivial
     refine AK.sc (lim := 0) (lo := 0) rfl rfl rfl rfl ?_ ?_
     ·intro k_ u w_ hk_ hl_ hJ hF K hK
      have h46 : u 46 = .int .i64 E := AK.facts_get hF 46 (by simp)
      clear hF
      simp only [h46] at hK ⊢
      clear h46
      go_simp
      exact hK.out _ _ (Below.refl _ _) (rfl) trivial
     exact AK.StepsOk.nil
    ·intro u W9 hJ9 hF
     have h11 : u 11 = .int .i64 E := AK.facts_get hF 11 (by simp [pstF, AK.temps])
     clear hF
     have HPS9 := Lib.hid (HPS.out.up hJ9)
     simp only [h11]
     clear hJ9 h11
     by_cases hE0 : E = 0
     ·have hz1 : (E == 0) = true := by simp [hE0]
      obtain ⟨i0, hi, hzz1, hzz2, hzz3⟩ := info_parts infoEx
      have HM3 : True := trivial
      have HM4 : True := trivial
      have HE0 := Lib.hid hE0
      clear hE0
      go_upto_region 12 with (first
       | (clear HM3; refine wpList_load_is rfl 46 _ rfl (.pointer (some ⟨bb, off + i * 7, none⟩)) rfl XV (HLX.out _ HPS9.out.low) ?_)
       | (go_at_call 24; refine (HPO.out _ HPS9.out).mono ?_; rintro e w7 ⟨rfl, hq⟩; obtain ⟨j2, M2, a1, a2, a3, a4, a5, a6, a7, a8, a9⟩ := HPS9.out.post (hq.yes HE0.out); have H1 := Lib.hid a1; have H2 := Lib.hid a2; have H3 := Lib.hid a3; have H4 := Lib.hid a4; have H5 := Lib.hid a5; have H6 := Lib.hid a6; have H7 := Lib.hid a7; have H8 := Lib.hid a8; have H9 := Lib.hid a9; clear hq a1 a2 a3 a4 a5 a6 a7 a8 a9))
      have hx8 : Below w7.heap.size w7 (w7.alloc (.cells #[.int .i64 x.id, .int .i64 x.ent, .int .i64 x.day, .int .i64 x.kind, .int .i64 x.of_, .string x.txt, .slice x.A x.n x.c] 46)) := below_alloc_new _
      have HX8 := Lib.hid hx8
      have HR8 : Hid (RowAt lyX (w7.alloc (.cells #[.int .i64 x.id, .int .i64 x.ent, .int .i64 x.day, .int .i64 x.kind, .int .i64 x.of_, .string x.txt, .slice x.A x.n x.c] 46)) (some ⟨w7.heap.size, 0, none⟩) [x]) := Lib.hid (row_one (R := lyX) (x := x) (Wh.new w7 46 (etyC x)))
      have HA8 := Lib.hid (H6.out.up hx8)
      have HOL : Hid ((Os.map (·.1)).length ≤ 1000) := Lib.hid (by rw [List.length_map]; have := HPS.out.ln; have := HL100.out; omega)
      have HLY : Hid (∀ W, Below w2.heap.size w2 W → (Instr.loadAt 46 (.pointer (some ⟨bb, off + i * 7, none⟩))).run Tryz.prog W = .ok (etyV x) W) := Lib.hid (fun W h => by rw [← HXV.out]; exact HLX.out W h)
      clear hx8
      go_wp2_with (first
       | (clear HM4; refine wpList_load_is rfl 46 _ rfl (.pointer (some ⟨bb, off + i * 7, none⟩)) rfl (etyV x) (HLY.out _ H8.out) ?_)
       | (at_builtin; refine wpList_app_row (R := lyX) rfl (.tmp 59) (.tmp 64) 30 rfl i0 _ 80 Tryz.underlying30 hi hzz1 hzz2 hzz3 (by omega) rfl rfl HA8.out (some ⟨w7.heap.size, 0, none⟩) 1 1 [x] rfl rfl HR8.out (by have := HOL.out; omega) (by have := HX8.out.size; have := H8.out.size; omega) ?_; intro v9 w9 hr9 hg9 hn9; have HZ9 : Hid (PS g L G Xs w2 (i + 1) (Os ++ [(x, X)]) jb j2 M2 v9 w9) := Lib.hid (PS.app (H1.out.up HX8.out) H2.out H3.out H4.out (fun k hk => ⟨(H5.out k hk).1, Nat.lt_of_lt_of_le (H5.out k hk).2 HX8.out.size⟩) HA8.out H7.out (H8.out.trans (HX8.out.mono H8.out.size)) (H9.out.on (Only.of HX8.out)) hr9.out hg9.out hn9.out HPS.out.sub HPM.out HPS.out.ln HPS.out.ok (HOX.out HE0.out)); clear hr9 hg9 hn9))
      go_roundg (n - (i + 1))
      case measure => omega
      case rel => exact ⟨i + 1, by (have hn100 := HL100.out; first | go_num | (refine congrArg (Value.int .i64) ?_; unfold wrap64; omega)), by omega, by omega, Lib.hid ⟨Os ++ [(x, X)], j2, M2, HZ9.out, HOV.out HE0.out⟩⟩
     ·have hz1 : (E == 0) = false := by simp [hE0]
      have HE0 := Lib.hid hE0
      have HM3 : True := trivial
      clear hE0
      go_wp2_with (first
       | (clear HM3; refine wpList_load_is rfl 46 _ rfl (.pointer (some ⟨bb, off + i * 7, none⟩)) rfl XV (HLX.out _ HPS9.out.low) ?_)
       | (go_at_call 24; refine (HPO.out _ HPS9.out).mono ?_; rintro e w7 ⟨rfl, hq⟩; have HPT := Lib.hid (HPS9.out.up (hq.no HE0.out)); clear hq))
      go_roundg (n - (i + 1))
      case measure => omega
      case rel => exact ⟨i + 1, by (have hn100 := HL100.out; first | go_num | (refine congrArg (Value.int .i64) ?_; unfold wrap64; omega)), by omega, by omega, Lib.hid ⟨Os, j, M, HPT.out.more, HVD.out⟩⟩
   ·obtain rfl : n = i := by omega
    have hltz : ¬ (n : Int) < (n : Int) := by omega
    have HPS := Lib.hid hps
    clear hps
    go_wp2_with fail
    go_ret3
    have hq : PsV g L G Xs w2 (.returned (.tuple #[.pointer (some ⟨jb, 0, none⟩), .slice A9 o9 c9, .bool true])) wr := by unfold PsV; rw [if_pos HV.out]; exact ⟨jb, j, M, Os, A9, c9, by rw [HO9.out], by rw [HO9.out, HNN.out]; exact HPS.out, HVD.out⟩
    obtain ⟨w4, q1, q2, q3⟩ := HQ.out _ _ hq HPS.out.low
    exact ⟨w4, by first | exact q1 | (rw [← HS0.out]; exact q1), q2, q3⟩
theorem vld_get {ck : Etl → Int} (hck : ∀ p, ck p = 0 → 1 ≤ p.1.id) : ∀ (n : Nat) {Os : List Etl}, Os.length = n → vldB ck Os = true → ∀ p ∈ Os, getE (Os.map pe) p.1.id = some (pe p)
 | 0, Os, hn, _, p, hp => by
  rw [List.eq_nil_of_length_eq_zero hn] at hp; cases hp
 | n + 1, Os, hn, h, p, hp => by
  have hne : Os ≠ [] := fun e => by rw [e] at hn; cases hn
  obtain ⟨Y, q, rfl⟩ : ∃ Y q, Os = Y ++ [q] := ⟨Os.dropLast, Os.getLast hne, (List.dropLast_concat_getLast hne).symm⟩
  obtain ⟨h1, h2⟩ := vld_snoc.1 h
  have hpos := vld_pos hck h1
  obtain ⟨-, h3, -⟩ := (post_ok hpos _).1 h2
  rw [List.map_append, getE_app]
  rcases List.mem_append.1 hp with hp | hp
  ·rw [vld_get hck n (by rw [List.length_append, List.length_singleton] at hn; omega) h1 p hp]; rfl
  ·rw [List.mem_singleton] at hp
   subst hp
   have h4 : getE (Y.map pe) p.1.id = none := h3
   rw [h4]
   show (none : Option PE).or (getE [pe p] p.1.id) = _
   rw [getE_one, if_pos (show (pe p).id = p.1.id from rfl)]; rfl
theorem get_none {Es : List PE} {id : Int} (h : getP Es id < 0) : getE Es id = none := by
 unfold getP at h
 split at h
 ·omega
 ·rename_i h1
  cases h2 : getE Es id with
  | none => rfl
  | some e => exact absurd ((idx_lt Es id).2 (by rw [h2]; rfl)) h1
theorem post_rev {Es : List PE} (hp : PosE Es) {x : Ety} {X : List Lnk} {id b : Int} {A : Option Addr} {c : Nat} {ib : Bool} (hx : getE Es x.id = some (pe (x, X))) (hn : getE Es id = none) (hl : Es.length < 2000) :
  postE (if ib = true then 0 else 2) Es (pe (revE x id b A c, X.map negL)) = 0 ↔ ib = true ∧ x.kind ≠ 3 ∧ revO Es x.id = none ∧ x.day ≤ b := by
 rw [post_ok hp]
 constructor
 ·rintro ⟨h1, -, h3, -⟩
  obtain ⟨e, e1, e2, e3, -, e5, -⟩ := h3 rfl
  have e1 : getE Es x.id = some e := e1
  rw [hx] at e1
  injection e1 with e1
  subst e1
  refine ⟨?_, e2, e3, ?_⟩
  ·cases ib
   ·cases h1
   ·rfl
  ·have h5 : ¬ b < x.day := e5
   omega
 ·rintro ⟨rfl, h2, h3, h4⟩
  exact ⟨rfl, hn, fun _ => ⟨pe (x, X), hx, h2, h3, rfl, by show ¬ b < x.day; omega, opp_self X⟩, hl⟩
theorem post_again {Es : List PE} {x : Ety} {X : List Lnk} {id id2 b d : Int} {A A' : Option Addr} {c c' : Nat} (hid : 1 ≤ id) (hx : getE Es x.id = some (pe (x, X))) (hr : revO Es x.id = none) (hn : getE Es id2 = none) (hne : id ≠ id2) :
  postE 0 (Es ++ [pe (revE x id b A c, X.map negL)]) (pe (revE x id2 d A' c', X.map negL)) = 7 ∧ revP (Es ++ [pe (revE x id b A c, X.map negL)]) x.id = id ∧ (revO (Es ++ [pe (revE x id b A c, X.map negL)]) x.id).isSome = true := by
 have h1 : revO (Es ++ [pe (revE x id b A c, X.map negL)]) x.id = some (pe (revE x id b A c, X.map negL)) := by
  rw [revO_app, hr, revO_one, if_pos]
  ·rfl
  ·show (decide ((3 : Int) = 3) && decide (x.id = x.id)) = true
   simp
 have h2 : revP (Es ++ [pe (revE x id b A c, X.map negL)]) x.id = id := by unfold revP; rw [h1]; rfl
 refine ⟨?_, h2, by rw [h1]; rfl⟩
 have h3 : getE (Es ++ [pe (revE x id b A c, X.map negL)]) x.id = some (pe (x, X)) := by rw [getE_app, hx]; rfl
 have h4 : ¬ idxP (Es ++ [pe (revE x id b A c, X.map negL)]) id2 < (Es ++ [pe (revE x id b A c, X.map negL)]).length := by
  rw [idx_lt, getE_app, hn, getE_one, if_neg (by show ¬ id = id2; exact hne)]
  simp
 have h5 : rvE (Es ++ [pe (revE x id b A c, X.map negL)]) (pe (revE x id2 d A' c', X.map negL)) = 7 := by
  unfold rvE
  rw [if_pos (show (pe (revE x id2 d A' c', X.map negL)).kind = 3 from rfl), idx_get, show (pe (revE x id2 d A' c', X.map negL)).of_ = x.id from rfl, h3]
  dsimp only
  rw [if_pos]
  rw [h2]
  simp
  omega
 unfold postE fst4
 rw [if_pos rfl, show (pe (revE x id2 d A' c', X.map negL)).id = id2 from rfl, if_neg h4, if_pos rfl, h5]
 rfl
theorem chk_day {g : Grp} {x : Ety} {X : List Lnk} {L : List Acc} {G : List Ent} (h : chkN g x X L G = 0) : inB g.cy g.cm g.cp x.day = true := by
 obtain ⟨h0, -, -, -, -, -, -, h7, -⟩ := chk_parts h
 unfold prE at h7
 rw [if_pos (grpP_cl h0)] at h7
 rw [in_is (grpP_cl h0)]
 cases h9 : inP g.cy g.cm g.cp x.day
 ·rw [h9] at h7; cases h7
 ·rfl
theorem take_succ_at {α : Type} {L : List α} {i : Nat} {p : α} (h : L[i]? = some p) : L.take (i + 1) = L.take i ++ [p] := by
 obtain ⟨hi, rfl⟩ := List.getElem?_eq_some_iff.1 h
 exact List.take_succ_eq_append_getElem hi
def revN (x : Ety) (a b : Int) (A : Option Addr) (n c : Nat) : Ety := ⟨a, x.ent, b, 3, x.id, x.txt, A, n, c⟩
theorem rr_build (x : Ety) (a b : Int) (w : World) : (Instr.build 46 #[(0, .int .i64 a), (1, .int .i64 x.ent), (2, .int .i64 b), (3, .int .i64 3), (4, .int .i64 x.id), (5, .string x.txt)]).run Tryz.prog w = .ok (etyV (revN x a b none 0 0)) w := run_build w 46 _ _ (by kernel_rfl)
theorem infoLnk : (Tryz.prog.info? 59).map (fun i => (i.zero, i.size, i.bytes)) = some (some (.agg #[.int .i64 0, .int .i64 0, .int .i64 0]), 3, 24) := by kernel_rfl
structure RvL (x : Ety) (X : List Lnk) (a b : Int) (s0 k : Nat) (W : World) : Prop where
 box : Wh 46 W s0 (etyC x)
 res : Wh 46 W (s0 + 1) [.int .i64 0, .int .i64 0, .int .i64 0, .int .i64 0, .int .i64 0, .string ⟨#[]⟩, .slice none 0 0]
 out : ∃ A c, Wh 46 W (s0 + 2) (etyC (revN x a b A k c)) ∧ OwnR lyL 59 W (s0 + 3) (.slice A k c) ((X.take k).map negL)
theorem RvL.up {x : Ety} {X : List Lnk} {a b : Int} {s0 k : Nat} {W W' : World} (h : RvL x X a b s0 k W) (hb : Below W.heap.size W W') : RvL x X a b s0 k W' := by
 obtain ⟨A, c, h1, h2⟩ := h.out
 exact ⟨h.box.up hb, h.res.up hb, A, c, h1.up hb, h2.up hb⟩
def RevO (x : Ety) (X : List Lnk) (a b : Int) (s : Nat) (e : Ending) (W : World) : Prop := ∃ A c, e = .returned (etyV (revE x a b A c)) ∧ OwnR lyL 59 W s (.slice A x.n c) (X.map negL)
set_option maxRecDepth 100000 in
set_option maxHeartbeats 6400000 in
theorem rrevo_any (x : Ety) (X : List Lnk) (a b : Int) (w : World) (hx : EtyK w x X) (hn : x.n ≤ 1000) : Calls Tryz.prog 25 #[etyV x, .int .i64 a, .int .i64 b] w fun e w' => RevO x X a b w.heap.size e w' ∧ Below w.heap.size w w' := by
 obtain ⟨i0, hi, hz1, hz2, hz3⟩ := info_parts infoLnk
 obtain ⟨s0, hs0⟩ : ∃ s0, w.heap.size = s0 := ⟨_, rfl⟩
 obtain ⟨w2, hw2⟩ : ∃ w2, (w.alloc (.cells (etyC x).toArray 46)).alloc (.cells #[.int .i64 0, .int .i64 0, .int .i64 0, .int .i64 0, .int .i64 0, .string ⟨#[]⟩, .slice none 0 0] 46) = w2 := ⟨_, rfl⟩
 have hXB : Wh 46 w2 s0 (etyC x) := by rw [← hw2, ← hs0]; exact (Wh.new w _ _).up (below_alloc_new _)
 have HRB : Hid (Wh 46 w2 (s0 + 1) [.int .i64 0, .int .i64 0, .int .i64 0, .int .i64 0, .int .i64 0, .string ⟨#[]⟩, .slice none 0 0]) := Lib.hid (by
  rw [← hw2, ← hs0]
  have h9 := Wh.new (w.alloc (.cells (etyC x).toArray 46)) 46 [.int .i64 0, .int .i64 0, .int .i64 0, .int .i64 0, .int .i64 0, .string ⟨#[]⟩, .slice none 0 0]
  rw [World.size_alloc] at h9
  exact h9)
 have HB2 : Hid (Below s0 w w2) := Lib.hid (by rw [← hw2, ← hs0]; exact below_new (below_alloc_new _) _)
 have hs2 : w2.heap.size = s0 + 2 := by rw [← hw2, ← hs0]; simp
 have HS2 := Lib.hid hs2
 have HXZ := Lib.hid hx.hz
 have HXL := Lib.hid hx.ln
 have HXO := Lib.hid hx.ok
 have p0 := hXB.at 0 _ rfl
 have p1 := hXB.at 1 _ rfl
 have p5 := hXB.at 5 _ rfl
 have HXB := Lib.hid hXB
 have HS0 := Lib.hid hs0
 have HN := Lib.hid hn
 obtain ⟨m, hm⟩ : ∃ m, x.n = m := ⟨_, rfl⟩
 have HMM := Lib.hid hm
 have hw3 : (etyC x).toArray = #[.int .i64 x.id, .int .i64 x.ent, .int .i64 x.day, .int .i64 x.kind, .int .i64 x.of_, .string x.txt, .slice x.A x.n x.c] := rfl
 rw [hw3] at hw2
 have HN3 : Hid (Wh 46 (w2.alloc (.cells #[.int .i64 0, .int .i64 0, .int .i64 0, .int .i64 0, .int .i64 0, .string ⟨#[]⟩, .slice none 0 0] 46)) (s0 + 2) [.int .i64 0, .int .i64 0, .int .i64 0, .int .i64 0, .int .i64 0, .string ⟨#[]⟩, .slice none 0 0]) := Lib.hid (by rw [← hs2]; exact Wh.new w2 _ _)
 clear hx hw3 hXB hm hn
 go_enter Tryz.func25, Tryz.ntmps25
 go_upto_region 2 with (first
  | (refine wpList_build_is rfl 46 _ rfl [(0, .int .i64 a), (1, .int .i64 x.ent), (2, .int .i64 b), (3, .int .i64 3), (4, .int .i64 x.id), (5, .string x.txt)] rfl (etyV (revN x a b none 0 0)) (rr_build x a b _) ?_)
  | (refine wpList_store_wh rfl 46 _ _ rfl (s0 + 2) rfl 46 [.int .i64 0, .int .i64 0, .int .i64 0, .int .i64 0, .int .i64 0, .string ⟨#[]⟩, .slice none 0 0] (etyC (revN x a b none 0 0)) rfl HN3.out rfl (by kernel_rfl) (by kernel_rfl) ?_; intro w3 hr3 ho3 hz3; have hb3 : Below w2.heap.size w2 w3 := only_new (by rw [HS2.out]; exact ho3.out); have HL3 : Hid (RvL x X a b s0 0 w3) := Lib.hid ⟨HXB.out.up hb3, HRB.out.up hb3, none, 0, hr3.out, OwnR.nil⟩; have HB3 := Lib.hid (HB2.out.trans (hb3.mono (by have := HS2.out; omega))); have HT3 : Hid (s0 + 3 ≤ w3.heap.size) := Lib.hid (Nat.le_of_eq (by rw [hz3, World.size_alloc, HS2.out])); clear hr3 ho3 hz3 hb3))
 clear p0 p1 p5 hw2 hs2 HN3 HRB HXB
 go_wp2_with fail
 go_loopg [8] m (fun kx s8 wr => ∃ (k : Nat), s8 = .int .i64 (k : Int) ∧ k ≤ m ∧ m - k ≤ kx ∧ Hid (RvL x X a b s0 k wr) ∧ Hid (Below s0 w wr) ∧ Hid (s0 + 3 ≤ wr.heap.size))
 case atStart => exact ⟨0, rfl, by omega, by omega, HL3, HB3, HT3⟩
 case round =>
  clear HL3 HB3 HT3
  obtain ⟨k, rfl, hk, hkx, HL, HB, HT⟩ := hrel
  have hx6 : wr.cell? ⟨s0, 6, none⟩ = some (.slice x.A m x.c) := by rw [← HMM.out]; exact HL.out.box.at 6 _ rfl
  have hm1000 : m ≤ 1000 := by have := HN.out; have := HMM.out; omega
  by_cases hlt : k < m
  ·have hltz : (k : Int) < (m : Int) := by omega
   obtain ⟨l, hl⟩ : ∃ l, X[k]? = some l := ⟨_, List.getElem?_eq_getElem (by rw [HXL.out, HMM.out]; exact hlt)⟩
   obtain ⟨gb, go, hA, hgl, hrg⟩ := (lnk_row.2 HXZ.out).at hl
   have q0 : wr.cell? ⟨gb, go + k * 3 + 0, none⟩ = some (.int .i64 l.frm) := (HB.out.cell (p := ⟨gb, go + k * 3 + 0, none⟩) (by rw [← HS0.out]; exact hgl)).trans (hrg 0 _ rfl)
   rw [Nat.add_zero] at q0
   have q1 : wr.cell? ⟨gb, go + k * 3 + 1, none⟩ = some (.int .i64 l.tgt) := (HB.out.cell (p := ⟨gb, go + k * 3 + 1, none⟩) (by rw [← HS0.out]; exact hgl)).trans (hrg 1 _ rfl)
   have q2 : wr.cell? ⟨gb, go + k * 3 + 2, none⟩ = some (.int .i64 l.since) := (HB.out.cell (p := ⟨gb, go + k * 3 + 2, none⟩) (by rw [← HS0.out]; exact hgl)).trans (hrg 2 _ rfl)
   have HLK := Lib.hid hl
   rw [hA] at hx6
   clear hl hgl hrg hA
   go_upto_region 7 with fail
   obtain ⟨W5, hW5⟩ : ∃ W5, wr.alloc (.cells #[.int .i64 l.frm, .int .i64 (wrap64 (-l.tgt)), .int .i64 l.since] 59) = W5 := ⟨_, rfl⟩
   have hw5 : Wh 59 W5 wr.heap.size (celL (negL l)) := by rw [← hW5]; exact Wh.new wr _ (celL (negL l))
   have hb5 : Below wr.heap.size wr W5 := by rw [← hW5]; exact below_alloc_new _
   have HL5 := Lib.hid (HL.out.up hb5)
   obtain ⟨A, c, h1, h2⟩ := HL5.out.out
   have HB5 := Lib.hid (HB.out.trans (hb5.mono (by have := HT.out; omega)))
   have HT5 : Hid (s0 + 3 ≤ W5.heap.size) := Lib.hid (Nat.le_trans HT.out hb5.size)
   have t0 := hw5.at 0 _ rfl
   have t1 : W5.cell? ⟨wr.heap.size, 1, none⟩ = some (.int .i64 (wrap64 (-l.tgt))) := hw5.at 1 _ rfl
   have t2 := hw5.at 2 _ rfl
   have o6 : W5.cell? ⟨s0 + 2, 6, none⟩ = some (.slice A k c) := h1.at 6 _ rfl
   have HE5 := Lib.hid h1
   have HR5 := Lib.hid h2
   have HLN : Hid (((X.take k).map negL).length = k) := Lib.hid (by rw [List.length_map, List.length_take, HXL.out, HMM.out]; omega)
   have HB6 := Lib.hid (below_alloc_new (w := W5) (.cells #[.int .i64 l.frm, .int .i64 (wrap64 (-l.tgt)), .int .i64 l.since] 59))
   have HW6 : Hid (Wh 59 (W5.alloc (.cells #[.int .i64 l.frm, .int .i64 (wrap64 (-l.tgt)), .int .i64 l.since] 59)) W5.heap.size (celL (negL l))) := Lib.hid (Wh.new W5 _ (celL (negL l)))
   have HST : Hid ((X.take k).map negL ++ [negL l] = (X.take (k + 1)).map negL) := Lib.hid (by rw [take_succ_at HLK.out, List.map_append]; rfl)
   rw [hW5]
   clear hW5 hw5 hb5 HL HB HT h1 h2 hx6 q0 q1 q2
   go_wp2_with (at_builtin; refine wpList_app_row (R := lyL) rfl (.tmp 36) (.tmp 38) 44 rfl i0 _ 24 Tryz.underlying44 hi hz1 hz2 hz3 (by omega) rfl rfl (HR5.out.up HB6.out) (some ⟨W5.heap.size, 0, none⟩) 1 1 [negL l] rfl rfl (row_one HW6.out) (by have := HLN.out; omega) (by have := HT5.out; simp; omega) ?_; intro v9 w9 hr9 hg9 hn9; rw [HST.out] at hr9; obtain ⟨A9, c9, e9, -, -⟩ := hr9.out.reads; rw [List.length_map, List.length_take, HXL.out, HMM.out, Nat.min_eq_left (by omega : k + 1 ≤ m)] at e9; subst e9; have hon : Only (fun b => (Value.slice A k c).ownBlock = some b) (W5.alloc (.cells #[.int .i64 l.frm, .int .i64 (wrap64 (-l.tgt)), .int .i64 l.since] 59)) w9 := Only.grown hg9.out fun _ hk => hk; have hne : ∀ b, (Value.slice A k c).ownBlock = some b → s0 + 3 ≤ b := fun b hb => (HR5.out.lt hb).1; have he9 := (HE5.out.up HB6.out).only hon (fun h => by have := hne _ h; omega); have y6 := he9.frozen 6; have z6 := he9.at 6 _ rfl; have HE9 := Lib.hid he9; have HX9 := Lib.hid ((HL5.out.box.up HB6.out).only hon (fun h => by have := hne _ h; omega)); have HS9 := Lib.hid ((HL5.out.res.up HB6.out).only hon (fun h => by have := hne _ h; omega)); have HR9 := Lib.hid hr9.out; have HB9 := Lib.hid ((HB5.out.trans (HB6.out.mono (by have := HT5.out; omega))).trans (hon.below (B := s0) (fun b hb => by have := hne _ hb; omega) (by have := HT5.out; simp; omega))); have HT9 : Hid (s0 + 3 ≤ w9.heap.size) := Lib.hid (Nat.le_trans HT5.out (Nat.le_trans HB6.out.size hon.size)); clear hr9 hg9 hn9 hon hne he9)
   have HLN9 : Hid (RvL x X a b s0 (k + 1) (w9.setCell ⟨s0 + 2, 6, none⟩ (.slice A9 (k + 1) c9))) := Lib.hid ⟨HX9.out.same (Below.heap_setCell w9 ⟨s0 + 2, 6, none⟩ _ s0 (by show s0 ≠ s0 + 2; omega)), HS9.out.same (Below.heap_setCell w9 ⟨s0 + 2, 6, none⟩ _ (s0 + 1) (by show s0 + 1 ≠ s0 + 2; omega)), A9, c9, HE9.out.set 6 _, HR9.out.blk fun g hg => Below.heap_setCell w9 ⟨s0 + 2, 6, none⟩ _ g (by have := (HR9.out.lt hg).1; show g ≠ s0 + 2; omega)⟩
   have HBN : Hid (Below s0 w (w9.setCell ⟨s0 + 2, 6, none⟩ (.slice A9 (k + 1) c9))) := Lib.hid (Below.setCell (p := ⟨s0 + 2, 6, none⟩) HB9.out (by show s0 ≤ s0 + 2; omega) _)
   go_roundg (m - (k + 1))
   case measure => omega
   case rel => exact ⟨k + 1, by go_num, by omega, by omega, HLN9, HBN, by rw [World.size_setCell]; exact HT9⟩
  ·obtain rfl : k = m := by omega
   have hltz : ¬ (k : Int) < (k : Int) := by omega
   obtain ⟨A, c, h1, h2⟩ := HL.out.out
   have HRES := Lib.hid HL.out.res
   have HOW := Lib.hid h2
   have HOL : Hid ((Instr.loadAt 46 (.pointer (some ⟨s0 + 2, 0, none⟩))).run Tryz.prog wr = .ok (etyV (revN x a b A k c)) wr) := Lib.hid (h1.rg.load 0 46 (etyC (revN x a b A k c)) rfl _ Tryz.underlying46 rfl (by kernel_rfl))
   have HM1 : True := trivial
   clear h1 h2 HL
   go_wp2_with (first
    | (clear HM1; refine wpList_load_is rfl 46 _ rfl (.pointer (some ⟨s0 + 2, 0, none⟩)) rfl (etyV (revN x a b A k c)) HOL.out ?_)
    | (refine wpList_store_wh rfl 46 _ _ rfl (s0 + 1) rfl 46 [.int .i64 0, .int .i64 0, .int .i64 0, .int .i64 0, .int .i64 0, .string ⟨#[]⟩, .slice none 0 0] (etyC (revN x a b A k c)) rfl HRES.out rfl (by kernel_rfl) (by kernel_rfl) ?_; intro w5 hr5 ho5 hz5))
   refine bodyPost_ret (v := etyV (revN x a b A k c)) (results_cell_mid Tryz.results25 _ _ (s0 + 1) (etyC (revN x a b A k c)) _ rfl hr5.out.range Tryz.underlying46 rfl (by kernel_rfl)) rfl ⟨⟨A, c, ?_, ?_⟩, ?_⟩
   ·unfold revE revN; rw [HMM.out]
   ·show OwnR lyL 59 _ _ (.slice A x.n c) (X.map negL)
    have h3 := HOW.out.blk fun g hg => ho5.out.blk g (HOW.out.lt hg).2 (by have := (HOW.out.lt hg).1; show ¬ g = s0 + 1; omega)
    rw [List.take_of_length_le (by rw [HXL.out, HMM.out]; exact Nat.le_refl _)] at h3
    have h4 := h3.low (b2 := s0) (by omega)
    rw [HMM.out]
    first | exact h4 | (rw [HS0.out]; exact h4)
   ·have h9 := HB.out.trans (ho5.out.below (B := s0) (fun k hk => by have h8 : k = s0 + 1 := hk; omega) (by have := HT.out; omega))
    first | exact h9 | (rw [HS0.out]; exact h9)
section
variable {W W' : World}
end
section
variable {α : Type} {R : Lay α} {e : TypeId} {w : World}
end
def cntI (Es : List PE) (k : Int) : Nat := Es.countP fun e => decide (k ≤ e.id)
theorem cntI_le (Es : List PE) (k : Int) : cntI Es k ≤ Es.length := List.countP_le_length
theorem cntI_mono : ∀ (Es : List PE) (k : Int), cntI Es (k + 1) ≤ cntI Es k
 | [], _ => Nat.le_refl _
 | e :: Es, k => by
  have ih := cntI_mono Es k
  unfold cntI at ih ⊢
  rw [List.countP_cons, List.countP_cons]
  by_cases h1 : k + 1 ≤ e.id
  ·rw [if_pos (by simpa using h1), if_pos (by simp; omega)]; omega
  ·rw [if_neg (by simpa using h1)]; split <;> omega
theorem cntI_step : ∀ (Es : List PE) (k : Int), (∃ e ∈ Es, e.id = k) → cntI Es (k + 1) < cntI Es k
 | [], _, h => by obtain ⟨e, he, -⟩ := h; cases he
 | e :: Es, k, ⟨y, hy, hk⟩ => by
  have h0 := cntI_mono Es k
  have ih := cntI_step Es k
  unfold cntI at ih h0 ⊢
  rw [List.countP_cons, List.countP_cons]
  rcases List.mem_cons.1 hy with rfl | hy
  ·rw [if_neg (by simp; omega), if_pos (by simp; omega)]; omega
  ·have h1 := ih ⟨y, hy, hk⟩
   by_cases h2 : k + 1 ≤ e.id
   ·rw [if_pos (by simpa using h2), if_pos (by simp; omega)]; omega
   ·rw [if_neg (by simpa using h2)]; split <;> omega
theorem getP_there {Es : List PE} {k : Int} (h : 0 ≤ getP Es k) : ∃ e ∈ Es, e.id = k := by
 unfold getP at h
 split at h
 ·rename_i h1
  obtain ⟨e, h2, h3⟩ := idxP_some h1
  exact ⟨e, List.mem_of_getElem? h2, h3⟩
 ·omega
open Go.RowKit
theorem jr_load {W : World} {g : Nat} {x : Ety} (h : Wh 46 W g (etyC x)) : (Instr.loadAt 46 (.pointer (some ⟨g, 0, none⟩))).run Tryz.prog W = .ok (etyV x) W := h.rg.load 0 46 (etyC x) rfl _ Tryz.underlying46 rfl (by kernel_rfl)
theorem jr_wrapN {x : Nat} (h : x ≤ 100) : IntKind.i64.wrap (x : Int) = (x : Int) := by
 rw [IntKind.wrap_i64]; omega
set_option maxRecDepth 100000 in
set_option maxHeartbeats 12800000 in
theorem law_jrev (g : Grp) (L : List Acc) (G : List Ent) (A : Option Addr) (n c : Nat) (Xs : List Etl) (a b d : Int) (w : World) (hk : GrK w g L G) (hw : GrW g L G) (hmx : g.m ≤ 9223372036854775807) (hn : Xs.length = n) (hnm : n ≤ 9223372036854775807) (hX : RowAt lyX w A (Xs.map (·.1))) (hq : ∀ a ∈ Xs, EtyK w a.1 a.2 ∧ a.1.n ≤ 9223372036854775807 ∧ a.1.txt.size ≤ maxLen ∧ EtyW a.1) :
  Calls Tryz.prog 5 #[grpV g, .slice A n c, .agg #[.int .i64 a, .int .i64 b, .int .i64 d]] w fun e w' => e = .returned (.bool true) ∧ Below w.heap.size w w' := by
 have HAW := Lib.hid jawake_any
 obtain ⟨s0, hs0⟩ : ∃ s0, w.heap.size = s0 := ⟨_, rfl⟩
 obtain ⟨w2, hw2⟩ : ∃ w2, (w.alloc (.cells #[.string g.cur, .int .i64 g.cy, .int .i64 g.cm, .int .i64 g.cp, .slice g.A g.n g.c, .int .i64 g.r0, .int .i64 g.r1, .int .i64 g.r2, .int .i64 g.r3, .int .i64 g.r4, .int .i64 g.r5, .int .i64 g.r6, .int .i64 g.r7, .int .i64 g.r8, .int .i64 g.r9, .int .i64 g.r10, .int .i64 g.r11, .int .i64 g.r12, .int .i64 g.r13, .int .i64 g.r14, .slice g.E g.m g.d] 29)).alloc (.cells #[.int .i64 a, .int .i64 b, .int .i64 d] 48) = w2 := ⟨_, rfl⟩
 have HGB : Hid (Wh 29 w2 s0 (grpC g)) := Lib.hid (by rw [← hw2, ← hs0]; exact (Wh.new w 29 (grpC g)).up (below_alloc_new _))
 have HAB : Hid (Wh 48 w2 (s0 + 1) [.int .i64 a, .int .i64 b, .int .i64 d]) := Lib.hid (by
  rw [← hw2, ← hs0]
  have h9 := Wh.new (w.alloc (.cells #[.string g.cur, .int .i64 g.cy, .int .i64 g.cm, .int .i64 g.cp, .slice g.A g.n g.c, .int .i64 g.r0, .int .i64 g.r1, .int .i64 g.r2, .int .i64 g.r3, .int .i64 g.r4, .int .i64 g.r5, .int .i64 g.r6, .int .i64 g.r7, .int .i64 g.r8, .int .i64 g.r9, .int .i64 g.r10, .int .i64 g.r11, .int .i64 g.r12, .int .i64 g.r13, .int .i64 g.r14, .slice g.E g.m g.d] 29)) 48 [.int .i64 a, .int .i64 b, .int .i64 d]
  rw [World.size_alloc] at h9
  exact h9)
 have HB2 : Hid (Below w.heap.size w w2) := Lib.hid (by rw [← hw2]; exact below_new (below_alloc_new _) _)
 have HKC := Lib.hid (hk.up HB2.out)
 have HXC := Lib.hid (hX.up HB2.out)
 have HEC : Hid (EtysK w2 Xs) := Lib.hid (fun p hp => (hq p hp).1.up HB2.out)
 have HQ : Hid (∀ p ∈ Xs, p.1.n ≤ 9223372036854775807 ∧ p.1.txt.size ≤ maxLen ∧ EtyW p.1) := Lib.hid (fun p hp => (hq p hp).2)
 have HWW := Lib.hid hw
 have HS0 := Lib.hid hs0
 have HNL := Lib.hid hn
 have HBC := Lib.hid (Below.refl w2.heap.size w2)
 obtain ⟨GV, hGV⟩ : ∃ GV, GV = grpV g := ⟨_, rfl⟩
 have HGV := Lib.hid hGV
 have HFW := Lib.hid (fun W (h : Below w2.heap.size w2 W) => by have h9 := r12few_any g G A c Xs W (HKC.out.up h).he hk.lg hmx (HXC.out.up h) (HEC.out.up h) (by rw [hn]; exact hnm) (fun p hp => ⟨(hq p hp).2.1, (hq p hp).2.2.1⟩); rw [← hGV, hn] at h9; exact h9)
 have HLG : Hid (∀ w9, Below w2.heap.size w2 w9 → (Instr.loadAt 29 (.pointer (some ⟨s0, 0, none⟩))).run Tryz.prog w9 = .ok GV w9) := Lib.hid (fun w9 h9 => by rw [hGV, grpV_is]; exact (HGB.out.up h9).rg.load 0 29 (grpC g) rfl _ Tryz.underlying29 rfl (by kernel_rfl))
 clear hk hGV hw hX hq hn hmx hnm
 have HM1 : True := trivial
 have HM2 : True := trivial
 cases hf : fewX Xs && few10 g G
 ·rw [hf] at HFW
  clear hf
  go_enter Tryz.func5, Tryz.ntmps5
  go_wp2_with (first
   | (go_at_call 13; refine (HAW.out _).mono ?_; rintro e w3 ⟨rfl, hb⟩; have hB3 := Lib.hid (HBC.out.trans (hb.mono HBC.out.size)); clear hb HBC; have HBC := hB3; clear hB3)
   | (clear HM1; refine wpList_load_is rfl 29 _ rfl (.pointer (some ⟨s0, 0, none⟩)) rfl GV (HLG.out _ HBC.out) ?_)
   | (go_at_call 14; refine (HFW.out _ HBC.out).mono ?_; rintro e w4 ⟨rfl, hb⟩; have hB3 := Lib.hid (HBC.out.trans (hb.mono HBC.out.size)); clear hb HBC; have HBC := hB3; clear hB3))
  go_ret
  exact ⟨by first | rfl | simp, (by have h9 := HB2.out.trans (HBC.out.mono HB2.out.size); first | exact h9 | (rw [← HS0.out]; exact h9))⟩
 ·rw [hf] at HFW
  have HFI := Lib.hid (few_is hf)
  clear hf
  have HPO := Lib.hid (fun W (h : Below w2.heap.size w2 W) => by have h9 := postedv_any g L G A c Xs W (HKC.out.up h) HFI.out.1 HWW.out (HXC.out.up h) (HEC.out.up h) (by have := HFI.out.2.1; omega) (fun p hp => ⟨by have := HFI.out.2.2 p hp; omega, (HQ.out p hp).2.1, (HQ.out p hp).2.2.id, (HQ.out p hp).2.2.of_⟩); rw [← HGV.out, HNL.out] at h9; exact h9)
  cases hv : grpP g L G
  ·have HPN : Hid (∀ W e W', (∃ w3, Below W.heap.size W w3 ∧ PsV g L G Xs w3 e W' ∧ Below w3.heap.size w3 W') → e = .returned (.tuple #[.pointer none, .slice none 0 0, .bool true]) ∧ Below W.heap.size W W') := Lib.hid (fun W e W' ⟨w3, h1, h2, h3⟩ => by
    unfold PsV at h2
    rw [hv] at h2
    exact ⟨by simpa using h2, h1.trans (h3.mono h1.size)⟩)
   clear hv
   go_enter Tryz.func5, Tryz.ntmps5
   go_wp2_with (first
    | (go_at_call 13; refine (HAW.out _).mono ?_; rintro e w3 ⟨rfl, hb⟩; have hB3 := Lib.hid (HBC.out.trans (hb.mono HBC.out.size)); clear hb HBC; have HBC := hB3; clear hB3)
    | (clear HM1; refine wpList_load_is rfl 29 _ rfl (.pointer (some ⟨s0, 0, none⟩)) rfl GV (HLG.out _ HBC.out) ?_)
    | (go_at_call 14; refine (HFW.out _ HBC.out).mono ?_; rintro e w4 ⟨rfl, hb⟩; have hB3 := Lib.hid (HBC.out.trans (hb.mono HBC.out.size)); clear hb HBC; have HBC := hB3; clear hB3)
    | (clear HM2; refine wpList_load_is rfl 29 _ rfl (.pointer (some ⟨s0, 0, none⟩)) rfl GV (HLG.out _ HBC.out) ?_)
    | (go_at_call 15; refine (HPO.out _ HBC.out).mono ?_; intro e w5 hq; obtain ⟨rfl, hb⟩ := HPN.out _ _ _ hq; clear hq; have hB3 := Lib.hid (HBC.out.trans (hb.mono HBC.out.size)); clear hb HBC; have HBC := hB3; clear hB3))
   go_ret
   exact ⟨by first | rfl | simp, (by have h9 := HB2.out.trans (HBC.out.mono HB2.out.size); first | exact h9 | (rw [← HS0.out]; exact h9))⟩
  ·have HPY : Hid (∀ W e W', (∃ w3, Below W.heap.size W w3 ∧ PsV g L G Xs w3 e W' ∧ Below w3.heap.size w3 W') → ∃ w3 jb j M Os A c, e = .returned (.tuple #[.pointer (some ⟨jb, 0, none⟩), .slice A Os.length c, .bool true]) ∧ PS g L G Xs w3 Xs.length Os jb j M (.slice A Os.length c) W' ∧ vldB (jck g L G) Os = true ∧ Below W.heap.size W w3 ∧ Below W.heap.size W W') := Lib.hid (fun W e W' ⟨w3, h1, h2, h3⟩ => by
    unfold PsV at h2
    rw [hv, if_pos rfl] at h2
    obtain ⟨jb, j, M, Os, A, c, h4, h5, h6⟩ := h2
    exact ⟨w3, jb, j, M, Os, A, c, h4, h5, h6, h1, h1.trans (h3.mono h1.size)⟩)
   have HV := Lib.hid hv
   clear hv
   have HM3 : True := trivial
   have HM6 : True := trivial
   have HAT : Hid (∀ W, Below w2.heap.size w2 W → W.cell? ⟨s0 + 1, 0, none⟩ = some (.int .i64 a) ∧ W.cell? ⟨s0 + 1, 1, none⟩ = some (.int .i64 b) ∧ W.cell? ⟨s0 + 1, 2, none⟩ = some (.int .i64 d)) := Lib.hid (fun W h => ⟨(HAB.out.up h).at 0 _ rfl, (HAB.out.up h).at 1 _ rfl, (HAB.out.up h).at 2 _ rfl⟩)
   go_enter Tryz.func5, Tryz.ntmps5
   go_upto_region 6 with (first
    | (go_at_call 13; refine (HAW.out _).mono ?_; rintro e w3 ⟨rfl, hb⟩; have hB3 := Lib.hid (HBC.out.trans (hb.mono HBC.out.size)); clear hb HBC; have HBC := hB3; clear hB3)
    | (clear HM1; refine wpList_load_is rfl 29 _ rfl (.pointer (some ⟨s0, 0, none⟩)) rfl GV (HLG.out _ HBC.out) ?_)
    | (go_at_call 14; refine (HFW.out _ HBC.out).mono ?_; rintro e w4 ⟨rfl, hb⟩; have hB3 := Lib.hid (HBC.out.trans (hb.mono HBC.out.size)); clear hb HBC; have HBC := hB3; clear hB3)
    | (clear HM2; refine wpList_load_is rfl 29 _ rfl (.pointer (some ⟨s0, 0, none⟩)) rfl GV (HLG.out _ HBC.out) ?_)
    | (go_at_call 15; refine (HPO.out _ HBC.out).mono ?_; intro e w5 hq; obtain ⟨w3, jb, j, M, Os, A5, c5, rfl, hps, hvd, h23, hb⟩ := HPY.out _ _ _ hq; have HPS := Lib.hid hps; have HVD := Lib.hid hvd; have H23 := Lib.hid (HBC.out.trans (h23.mono HBC.out.size)); clear hq hps hvd h23; have hB3 := Lib.hid (HBC.out.trans (hb.mono HBC.out.size)); clear hb HBC; have HBC := hB3; clear hB3; obtain ⟨q0, q1, q2⟩ := HAT.out _ HBC.out))
   have HOL : Hid (Os.length ≤ 61) := Lib.hid (by have := HPS.out.ln; have := HFI.out.2.1; omega)
   obtain ⟨o9, ho9⟩ : ∃ o9, Os.length = o9 := ⟨_, rfl⟩
   have HO9 := Lib.hid ho9
   rw [ho9] at HPS ⊢
   have ho61 : o9 ≤ 61 := by rw [← ho9]; exact HOL.out
   clear ho9
   by_cases hn0 : o9 = 0
   ·have e0 : ((o9 : Int) == 0) = true := by simp [hn0]
    clear hn0
    go_wp2_with fail
    go_ret
    exact ⟨by first | rfl | simp, (by have h9 := HB2.out.trans (HBC.out.mono HB2.out.size); first | exact h9 | (rw [← HS0.out]; exact h9))⟩
   have e0 : ((o9 : Int) == 0) = false := by simp [hn0]
   by_cases ha : a < 0
   ·have d1 : decide (a < 0) = true := decide_eq_true ha
    clear ha hn0
    go_wp2_with fail
    go_ret
    exact ⟨by first | rfl | simp, (by have h9 := HB2.out.trans (HBC.out.mono HB2.out.size); first | exact h9 | (rw [← HS0.out]; exact h9))⟩
   have d1 : decide (a < 0) = false := decide_eq_false ha
   have hnz2 : ¬ (o9 : Int) = 0 := by omega
   obtain ⟨k, hk⟩ : ∃ k : Nat, a.tmod (o9 : Int) = (k : Int) := ⟨(a.tmod o9).toNat, by rw [Int.tmod_eq_emod_of_nonneg (by omega), Int.toNat_of_nonneg (Int.emod_nonneg _ (by omega))]⟩
   have hkn : k < o9 := by
    have := Int.emod_lt_of_pos a (show (0 : Int) < o9 by omega)
    rw [← Int.tmod_eq_emod_of_nonneg (by omega), hk] at this
    omega
   have hkc1 : (k : Int) < (o9 : Int) := Int.ofNat_lt.2 hkn
   have hkz3 : IntKind.i64.wrap (k : Int) = (k : Int) := jr_wrapN (by omega)
   obtain ⟨p, hp⟩ : ∃ p, Os[k]? = some p := ⟨_, List.getElem?_eq_getElem (by rw [HO9.out]; exact hkn)⟩
   have hpm := List.mem_of_getElem? hp
   obtain ⟨x, X⟩ := p
   have HXO := Lib.hid hpm
   have HXX := Lib.hid (HPS.out.sub _ hpm)
   have hr7 : RowAt lyX w5 A5 (Os.map (·.1)) := by
    obtain ⟨A7, c7, e7, hr7, -⟩ := HPS.out.ow.reads
    injection e7 with e7 _ _
    rw [e7]
    exact hr7
   obtain ⟨bb, off, hA, hbl, hrgx⟩ := hr7.at (i := k) (a := x) (by rw [List.getElem?_map, hp]; rfl)
   subst hA
   have HLXW : Hid ((Instr.loadAt 46 (.pointer (some ⟨bb, off + k * 7, none⟩))).run Tryz.prog w5 = .ok (etyV x) w5) := Lib.hid (run_loadAt_mid w5 bb (off + k * 7) 46 (etyC x) _ (fun jj v hv => hrgx jj v hv) Tryz.underlying46 rfl (by kernel_rfl))
   obtain ⟨g7, hg7⟩ : ∃ g7, w5.heap.size = g7 := ⟨_, rfl⟩
   have HG7 := Lib.hid hg7
   have HMG : Hid (∀ t, M t → t < g7) := Lib.hid (fun t ht => by rw [← hg7]; exact (HPS.out.mw t ht).2)
   obtain ⟨Es, hEs⟩ : ∃ Es, Os.map pe = Es := ⟨_, rfl⟩
   have HES := Lib.hid hEs
   have HEL : Hid (Es.length = o9) := Lib.hid (by rw [← hEs, List.length_map, HO9.out])
   have HPE : Hid (PosE Es) := Lib.hid (by rw [← hEs]; exact vld_pos (fun p h => jck_id h) HVD.out)
   have HGX : Hid (getE Es x.id = some (pe (x, X))) := Lib.hid (by rw [← hEs]; exact vld_get (fun p h => jck_id h) _ rfl HVD.out _ hpm)
   have HXN : Hid (x.n ≤ 1000) := Lib.hid (by have h8 : x.n ≤ 60 := HFI.out.2.2 _ HXX.out; omega)
   have HXL : Hid (X.length = x.n) := Lib.hid (HEC.out _ HXX.out).ln
   have HC0 : Hid (chkN g x X L G = 0) := Lib.hid (by rw [chk_eq g x X L G HXL.out]; exact vld_ck HVD.out _ hpm)
   have HXI : Hid ((Lit.int .i64 x.id).wf = true) := Lib.hid (HQ.out _ HXX.out).2.2.id
   have HEX : Hid (∀ W, Below w2.heap.size w2 W → EtyK W x X) := Lib.hid (fun W hb => (HEC.out.up hb) _ HXX.out)
   have HGT : Hid (∀ id W, OwnR lyX 46 W w3.heap.size (.slice (some ⟨bb, off, none⟩) o9 c5) (Os.map (·.1)) → Calls Tryz.prog 21 #[.slice (some ⟨bb, off, none⟩) o9 c5, .int .i64 id] W fun e w' => e = .returned (.int .i64 (getP Es id)) ∧ W = w') := Lib.hid (fun id W hw => by
    obtain ⟨A7, c7, e7, hr7, -⟩ := hw.reads
    injection e7 with e7 _ _
    have h9 := r12get_any (some ⟨bb, off, none⟩) c5 Os id W (by rw [e7]; exact hr7) (by have := HOL.out; omega)
    rw [HO9.out, HES.out] at h9
    exact h9)
   have HRS : Hid (∀ W, PS g L G Xs w3 Xs.length Os jb j M (.slice (some ⟨bb, off, none⟩) o9 c5) W → Calls Tryz.prog 22 #[.pointer (some ⟨jb, 0, none⟩), .int .i64 x.id] W fun e w' => e = .returned (.tuple #[.int .i64 (revP Es x.id), .bool (revO Es x.id).isSome]) ∧ W = w') := Lib.hid (fun W h => by
    have h9 := jrev_any j x.id W h.jk HXI.out
    rw [h.jb, h.es, HES.out] at h9
    exact h9)
   have HRV : Hid (∀ i t W, Below w2.heap.size w2 W → Calls Tryz.prog 25 #[etyV x, .int .i64 i, .int .i64 t] W fun e w' => RevO x X i t W.heap.size e w' ∧ Below W.heap.size W w') := Lib.hid (fun i t W hb => rrevo_any x X i t W (HEX.out _ hb) HXN.out)
   have HIC : Hid (∀ W, Calls Tryz.prog 23 #[calV g.cy g.cm g.cp, .int .i64 b] W fun e w' => e = .returned (.bool (inB g.cy g.cm g.cp b)) ∧ Below W.heap.size W w') := Lib.hid (fun W => rincal_any g.cy g.cm g.cp b W (by have := clV_iff.1 (grpP_cl HV.out); omega))
   have HLC : Hid (∀ W, Below w2.heap.size w2 W → (Instr.loadAt 23 (.pointer (some ⟨s0, 1, none⟩))).run Tryz.prog W = .ok (calV g.cy g.cm g.cp) W) := Lib.hid (fun W hb => run_loadAt_mid W s0 1 23 [.int .i64 g.cy, .int .i64 g.cm, .int .i64 g.cp] _ (fun jj v hv => by
    have hc := HGB.out.up hb
    match jj, hv with
    | 0, hv => exact (hc.at 1 _ rfl).trans hv
    | 1, hv => exact (hc.at 2 _ rfl).trans hv
    | 2, hv => exact (hc.at 3 _ rfl).trans hv) Tryz.underlying23 rfl (by kernel_rfl))
   have HEK : Hid (∀ i t A c s W, OwnR lyL 59 W s (.slice A x.n c) (X.map negL) → EtyK W (revE x i t A c) (X.map negL)) := Lib.hid (fun i t A c s W hw => by
    obtain ⟨A7, c7, e7, hr7, -⟩ := hw.reads
    injection e7 with e7 _ _
    exact ⟨by show (X.map negL).length = x.n; rw [List.length_map]; exact HXL.out, by show LnkAt _ A _; rw [e7]; exact lnk_row.1 hr7, okL_neg (HEC.out _ HXX.out).ok⟩)
   have HCK : Hid (∀ (j' : JD) i t A c, 1 ≤ i → BareD g L G j' → chkN j'.g (revE x i t A c) (X.map negL) j'.L j'.G = if inB g.cy g.cm g.cp t = true then 0 else 2) := Lib.hid (fun j' i t A c hi hbd => by
    rw [chk_bare hbd HV.out HKC.out.lg _ _ (by show (X.map negL).length = x.n; rw [List.length_map]; exact HXL.out), ← chk_eq g _ _ L G (by show (X.map negL).length = x.n; rw [List.length_map]; exact HXL.out)]
    exact chk_rev HC0.out t A c hi)
   have HDY := Lib.hid (chk_day HC0.out)
   clear hp hpm hbl hrgx hr7 hEs hkn hn0 ha
   go_wp2_with (first
    | (clear HM3; refine wpList_load_is rfl 46 _ rfl (.pointer (some ⟨bb, off + k * 7, none⟩)) rfl (etyV x) HLXW.out ?_)
    | (clear HM6; refine wpList_store_wh rfl 46 _ _ rfl g7 rfl 46 [.int .i64 0, .int .i64 0, .int .i64 0, .int .i64 0, .int .i64 0, .string ⟨#[]⟩, .slice none 0 0] (etyC x) rfl (by rw [← HG7.out]; exact Wh.new w5 46 [.int .i64 0, .int .i64 0, .int .i64 0, .int .i64 0, .int .i64 0, .string ⟨#[]⟩, .slice none 0 0]) rfl (by kernel_rfl) (by kernel_rfl) ?_; intro w8 hr8 ho8 hz8; have hn8 : Below w5.heap.size w5 w8 := only_new (by rw [HG7.out]; exact ho8.out); have HR8 := Lib.hid hr8.out; have HPS8 := Lib.hid (HPS.out.up hn8); have HB8 := Lib.hid (HBC.out.trans (hn8.mono HBC.out.size)); clear HBC hg7; have HBC := HB8; clear HB8 q0 q1 q2; obtain ⟨q0, q1, q2⟩ := HAT.out _ HBC.out; clear hr8 ho8 hz8 hn8))
   go_loopg [11] o9 (fun kx s11 wr => ∃ id : Int, s11 = .int .i64 id ∧ 1 ≤ id ∧ cntI Es id ≤ kx ∧ id + cntI Es id ≤ (o9 : Int) + 1 ∧ wr = w8)
   case atStart =>
    have h9 := cntI_le Es 1
    rw [HEL.out] at h9
    exact ⟨1, rfl, by omega, h9, by omega, rfl⟩
   case round =>
    obtain ⟨id, rfl, hid1, hkx, hid2, hV⟩ := hrel
    have hV2 := hV.symm
    subst hV2
    clear hV
    obtain ⟨q, hq⟩ : ∃ q, getP Es id = q := ⟨_, rfl⟩
    have HG9 := Lib.hid (HGT.out id)
    rw [hq] at HG9
    have HIB : Hid (1 ≤ id ∧ id + cntI Es id ≤ (o9 : Int) + 1 ∧ id ≤ 62 ∧ o9 ≤ 61) := Lib.hid ⟨hid1, hid2, by omega, ho61⟩
    by_cases hg : 0 ≤ q
    ·have hst := cntI_step Es id (getP_there (by rw [hq]; exact hg))
     have d2 : decide (q ≥ 0) = true := decide_eq_true hg
     have d3 : decide (0 ≤ q) = true := decide_eq_true hg
     clear hq hg
     have hw1 : wrap64 (id + 1) = id + 1 := by have := HIB.out; unfold wrap64; omega
     go_wp2_with (go_at_call 21; refine (HG9.out _ HPS8.out.ow).mono ?_; rintro r w9 ⟨rfl, rfl⟩)
     go_roundg (cntI Es (id + 1))
     case measure => omega
     case rel => exact ⟨id + 1, by first | rfl | rw [hw1], by omega, by omega, by omega, rfl⟩
    ·have d2 : decide (q ≥ 0) = false := decide_eq_false hg
     have d3 : decide (0 ≤ q) = false := decide_eq_false hg
     have HGN : Hid (getE Es id = none) := Lib.hid (get_none (by rw [hq]; omega))
     obtain ⟨ib, hib⟩ : ∃ ib, inB g.cy g.cm g.cp b = ib := ⟨_, rfl⟩
     rw [hib] at HIC
     have HIBB := Lib.hid hib
     obtain ⟨rp, hrp⟩ : ∃ rp, revP Es x.id = rp := ⟨_, rfl⟩
     obtain ⟨ri, hri⟩ : ∃ ri, (revO Es x.id).isSome = ri := ⟨_, rfl⟩
     rw [hrp, hri] at HRS
     have HRI := Lib.hid hri
     obtain ⟨wB, hwB⟩ : ∃ wB : Bool, decide (ib = true ∧ x.kind ≠ 3 ∧ ri = false ∧ x.day ≤ b) = wB := ⟨_, rfl⟩
     have HWB := Lib.hid hwB
     obtain ⟨E1, hE1⟩ : ∃ E1, postE (if ib = true then 0 else 2) Es (pe (revE x id b none 0, X.map negL)) = E1 := ⟨_, rfl⟩
     have HE1 : Hid (E1 = 0 ↔ wB = true) := Lib.hid (by
      rw [← hE1, post_rev HPE.out HGX.out HGN.out (by rw [HEL.out]; omega), ← hwB, decide_eq_true_eq, ← hri]
      cases revO Es x.id <;> simp)
     have HPO1 : Hid (∀ A c W, PS g L G Xs w3 Xs.length Os jb j M (.slice (some ⟨bb, off, none⟩) o9 c5) W → EtyK W (revE x id b A c) (X.map negL) → Calls Tryz.prog 24 #[.pointer (some ⟨jb, 0, none⟩), etyV (revE x id b A c)] W fun e w' => e = .returned (.int .i64 E1) ∧ PostQ E1 M w3.heap.size j (revE x id b A c) (X.map negL) W w') := Lib.hid (fun A c W h hx => by
      have h9 := jpost_any (B := w3.heap.size) j (revE x id b A c) (X.map negL) W h.jk hx HXN.out (by show (Lit.int .i64 id).wf = true; exact WalkArith.wf_i64 ⟨by have := HIB.out; omega, by have := HIB.out; omega⟩) HXI.out h.low.size (by have h1 := h.jk.len; rw [h.es, List.length_map, HO9.out] at h1; omega) (fun t ht => (h.mw t ht).2)
      rw [HCK.out j id b A c HIB.out.1 h.bd, h.es, HES.out, h.jb, hib] at h9
      rw [show pe (revE x id b A c, X.map negL) = pe (revE x id b none 0, X.map negL) from rfl, hE1] at h9
      exact h9)
     have c0 := HR8.out.at 0 _ rfl
     have hu3 := HR8.out.at 3 _ rfl
     have hu2 := HR8.out.at 2 _ rfl
     clear hg hq hkx hid1 hid2 hib hrp hri hwB hE1
     go_upto_region 13 with (first
      | (go_at_call 21; refine (HG9.out _ HPS8.out.ow).mono ?_; rintro r w9 ⟨rfl, rfl⟩)
      | (go_at_call 22; refine (HRS.out _ HPS8.out).mono ?_; rintro r w9 ⟨rfl, rfl⟩))
     go_cut [14] from 71 to 91 (fun s14 wx => s14 = .bool wB ∧ Hid (PS g L G Xs w3 Xs.length Os jb j M (.slice (some ⟨bb, off, none⟩) o9 c5) wx) ∧ Hid (Wh 46 wx g7 (etyC x)) ∧ Hid (Below w2.heap.size w2 wx))
     case first =>
      have HM7 : True := trivial
      by_cases hk3 : x.kind = 3
      ·have kz : (x.kind != 3) = false := by simp [hk3]
       have hwb : wB = false := by rw [← HWB.out]; exact decide_eq_false (fun h => h.2.1 hk3)
       clear hk3
       go_wp2_with fail
       go_meet
       exact ⟨by rw [hwb], HPS8, HR8, HBC⟩
      ·have kz : (x.kind != 3) = true := by simp [hk3]
       by_cases hr2 : ri = true
       ·have nr : (!ri) = false := by simp [hr2]
        have hwb : wB = false := by rw [← HWB.out]; exact decide_eq_false (fun h => by rw [hr2] at h; cases h.2.2.1)
        clear hk3 hr2
        go_wp2_with fail
        go_meet
        exact ⟨by rw [hwb], HPS8, HR8, HBC⟩
       ·have nr : (!ri) = true := by simp [hr2]
        have HIC2 := HIC
        by_cases hb2 : ib = true
        ·rw [hb2] at HIC2
         have hwb : wB = decide (b ≥ x.day) := by rw [← HWB.out]; exact decide_eq_decide.2 ⟨fun h => h.2.2.2, fun h => ⟨hb2, hk3, by simpa using hr2, h⟩⟩
         clear hk3 hr2 hb2
         go_wp2_with (first
          | (clear HM7; refine wpList_load_if (by rfl) 23 _ rfl (.pointer (some ⟨s0, 1, none⟩)) rfl (calV g.cy g.cm g.cp) (HLC.out _ HBC.out) ?_)
          | (go_at_call 23; refine (HIC2.out _).mono ?_; rintro r wz ⟨rfl, hb⟩; have HPz := Lib.hid (HPS8.out.up hb); have HRz := Lib.hid (HR8.out.up hb); have HBz := Lib.hid (HBC.out.trans (hb.mono HBC.out.size)); have y2 := HRz.out.at 2 _ rfl; obtain ⟨y3, y4, y5⟩ := HAT.out _ HBz.out; clear hb))
         go_meet
         exact ⟨by rw [hwb], HPz, HRz, HBz⟩
        ·have hb3 : ib = false := by simpa using hb2
         rw [hb3] at HIC2
         have hwb : wB = false := by rw [← HWB.out]; exact decide_eq_false (fun h => hb2 h.1)
         clear hk3 hr2 hb2 hb3
         go_wp2_with (first
          | (clear HM7; refine wpList_load_if (by rfl) 23 _ rfl (.pointer (some ⟨s0, 1, none⟩)) rfl (calV g.cy g.cm g.cp) (HLC.out _ HBC.out) ?_)
          | (go_at_call 23; refine (HIC2.out _).mono ?_; rintro r wz ⟨rfl, hb⟩; have HPz := Lib.hid (HPS8.out.up hb); have HRz := Lib.hid (HR8.out.up hb); have HBz := Lib.hid (HBC.out.trans (hb.mono HBC.out.size)); have y2 := HRz.out.at 2 _ rfl; obtain ⟨y3, y4, y5⟩ := HAT.out _ HBz.out; clear hb))
         go_meet
         exact ⟨by rw [hwb], HPz, HRz, HBz⟩
     case rest =>
     obtain ⟨rfl, HP, HR, HB⟩ := hcut
     have HP0 := Lib.hid HP.out
     have HR0 := Lib.hid HR.out
     have HB0 := Lib.hid HB.out
     clear HP HR HB HBC HPS8 HPS HR8 q0 q1 q2 c0 hu2 hu3
     obtain ⟨q0, q1, q2⟩ := HAT.out _ HB0.out
     have HLD : Hid (∀ W, Wh 46 W g7 (etyC x) → (Instr.loadAt 46 (.pointer (some ⟨g7, 0, none⟩))).run Tryz.prog W = .ok (etyV x) W) := Lib.hid (fun W h => h.rg.load 0 46 (etyC x) rfl _ Tryz.underlying46 rfl (by kernel_rfl))
     have HM8 : True := trivial
     have HM9 : True := trivial
     have HM10 : True := trivial
     have HM11 : True := trivial
     have HWI : Hid (wrap64 (id + 1) = id + 1) := Lib.hid (by have := HIB.out; unfold wrap64; omega)
     by_cases hwb : wB = true
     ·subst hwb
      have hE0 : E1 = 0 := HE1.out.2 rfl
      subst hE0
      have HRN : Hid (revO Es x.id = none) := Lib.hid (by
       have h1 := of_decide_eq_true HWB.out
       have h2 := HRI.out
       rw [h1.2.2.1] at h2
       cases h3 : revO Es x.id with
       | none => rfl
       | some y => rw [h3] at h2; cases h2)
      go_wp2_with (first
       | (clear HM8; refine wpList_load_is rfl 46 _ rfl (.pointer (some ⟨g7, 0, none⟩)) rfl (etyV x) (HLD.out _ HR0.out) ?_)
       | (go_at_call 25; refine (HRV.out id b _ HB0.out).mono ?_; rintro r wr1 ⟨⟨Ar, cr, rfl, hor⟩, hb⟩; have HP1 := Lib.hid (HP0.out.up hb); have HR1 := Lib.hid (HR0.out.up hb); have HB1 := Lib.hid (HB0.out.trans (hb.mono HB0.out.size)); have HO1 := Lib.hid hor; clear hor hb)
       | (go_at_call 24; refine (HPO1.out Ar cr _ HP1.out (HEK.out _ _ _ _ _ _ HO1.out)).mono ?_; rintro r wq ⟨rfl, hq⟩; have hpp := hq.yes rfl; obtain ⟨j2, M2, a1, a2, a3, a4, a5, a6, a7, a8, a9⟩ := HP1.out.post hpp; obtain ⟨A_, c_, A2_, c2_, -, ho2, -⟩ := hpp; have HJq := Lib.hid a1; have HJb := Lib.hid a2; have HJd := Lib.hid a3; have HJe := Lib.hid a4; have HJm := Lib.hid a5; have HOq := Lib.hid a6; have HBq := Lib.hid (H23.out.trans (a8.mono H23.out.size)); have HLq := Lib.hid a8; have HRq := Lib.hid (HR1.out.only ho2 (fun h => by have := HMG.out _ h; omega)); clear hq a1 a2 a3 a4 a5 a6 a7 a8 a9 ho2))
      go_loopg [16] o9 (fun kx s16 wr => ∃ i2 : Int, s16 = .int .i64 i2 ∧ id + 1 ≤ i2 ∧ cntI Es i2 ≤ kx ∧ i2 + cntI Es i2 ≤ (o9 : Int) + 2 ∧ wr = wq)
      case atStart =>
       have h9 := cntI_le Es (id + 1)
       have h8 := cntI_mono Es id
       have h7 := HIB.out
       rw [HEL.out] at h9
       exact ⟨id + 1, by first | rfl | rw [HWI.out], by omega, h9, by omega, rfl⟩
      case round =>
       obtain ⟨i2, rfl, hid1, hkx, hid2, hV⟩ := hrel
       have hV2 := hV.symm
       subst hV2
       clear hV
       obtain ⟨q, hq⟩ : ∃ q, getP Es i2 = q := ⟨_, rfl⟩
       have HG2 := Lib.hid (HGT.out i2)
       rw [hq] at HG2
       have HI2 : Hid (id + 1 ≤ i2 ∧ i2 ≤ 63) := Lib.hid ⟨hid1, by have := HIB.out; omega⟩
       by_cases hg : 0 ≤ q
       ·have hst := cntI_step Es i2 (getP_there (by rw [hq]; exact hg))
        have d4 : decide (q ≥ 0) = true := decide_eq_true hg
        have d5 : decide (0 ≤ q) = true := decide_eq_true hg
        clear hq hg d2 d3
        have hw1 : wrap64 (i2 + 1) = i2 + 1 := by have h7 := HI2.out; have h8 := HIB.out; unfold wrap64; omega
        go_wp2_with (go_at_call 21; refine (HG2.out _ HOq.out).mono ?_; rintro r w9 ⟨rfl, rfl⟩)
        go_roundg (cntI Es (i2 + 1))
        case measure => omega
        case rel => exact ⟨i2 + 1, by first | rfl | rw [hw1], by omega, by omega, by omega, rfl⟩
       ·have d4 : decide (q ≥ 0) = false := decide_eq_false hg
        have d5 : decide (0 ≤ q) = false := decide_eq_false hg
        have HGN2 : Hid (getE Es i2 = none) := Lib.hid (get_none (by rw [hq]; omega))
        clear hq hg hkx hid1 hid2 d2 d3
        have HJ2e : Hid (postE (if inB g.cy g.cm g.cp x.day = true then 0 else 2) (Es ++ [pe (revE x id b none 0, X.map negL)]) (pe (revE x i2 x.day none 0, X.map negL)) = 7 ∧ revP (Es ++ [pe (revE x id b none 0, X.map negL)]) x.id = id ∧ (revO (Es ++ [pe (revE x id b none 0, X.map negL)]) x.id).isSome = true) := Lib.hid (by rw [HDY.out, if_pos rfl]; exact post_again HIB.out.1 HGX.out HRN.out HGN2.out (by have := HI2.out; omega))
        have HRS2 : Hid (∀ W, JK M2 w3.heap.size W j2 → Calls Tryz.prog 22 #[.pointer (some ⟨jb, 0, none⟩), .int .i64 x.id] W fun e w' => e = .returned (.tuple #[.int .i64 id, .bool true]) ∧ W = w') := Lib.hid (fun W h => by
         have h9 := jrev_any j2 x.id W h HXI.out
         rw [HJb.out, HJe.out, HES.out, show pe (revE x id b Ar cr, X.map negL) = pe (revE x id b none 0, X.map negL) from rfl, HJ2e.out.2.1, HJ2e.out.2.2] at h9
         exact h9)
        have HPO2 : Hid (∀ A c W, JK M2 w3.heap.size W j2 → EtyK W (revE x i2 x.day A c) (X.map negL) → w3.heap.size ≤ W.heap.size → (∀ t, M2 t → t < W.heap.size) → Calls Tryz.prog 24 #[.pointer (some ⟨jb, 0, none⟩), etyV (revE x i2 x.day A c)] W fun e w' => e = .returned (.int .i64 7) ∧ Below W.heap.size W w') := Lib.hid (fun A c W h hx hs hm => by
         have h9 := jpost_any (B := w3.heap.size) j2 (revE x i2 x.day A c) (X.map negL) W h hx HXN.out (by show (Lit.int .i64 i2).wf = true; exact WalkArith.wf_i64 ⟨by have := HIB.out; have := HI2.out; omega, by have := HI2.out; omega⟩) HXI.out hs (by have h1 := h.len; rw [HJe.out, List.length_append, List.length_map, HO9.out] at h1; simp at h1; have := HIB.out; omega) hm
         rw [HCK.out j2 i2 x.day A c (by have := HIB.out; have := HI2.out; omega) HJd.out, HJe.out, HES.out, HJb.out] at h9
         rw [show pe (revE x id b Ar cr, X.map negL) = pe (revE x id b none 0, X.map negL) from rfl, show pe (revE x i2 x.day A c, X.map negL) = pe (revE x i2 x.day none 0, X.map negL) from rfl, HJ2e.out.1] at h9
         exact h9.mono fun e w' ⟨h1, h2⟩ => ⟨h1, h2.no (by decide)⟩)
        have u0 := HRq.out.at 0 _ rfl
        have u2 := HRq.out.at 2 _ rfl
        go_wp2_with (first
         | (go_at_call 21; refine (HG2.out _ HOq.out).mono ?_; rintro r w9 ⟨rfl, rfl⟩)
         | (clear HM9; refine wpList_load_is rfl 46 _ rfl (.pointer (some ⟨g7, 0, none⟩)) rfl (etyV x) (HLD.out _ HRq.out) ?_)
         | (go_at_call 25; refine (HRV.out i2 x.day _ HBq.out).mono ?_; rintro r w11 ⟨⟨A11, c11, rfl, hor⟩, hb⟩; have HO2 := Lib.hid hor; have HB11 := Lib.hid (HBq.out.trans (hb.mono HBq.out.size)); have HX11 := Lib.hid hb; obtain ⟨g8, hg8⟩ : ∃ g8, w11.heap.size = g8 := ⟨_, rfl⟩; have HG8 := Lib.hid hg8; clear hor hb)
         | (clear HM10; refine wpList_store_wh rfl 46 _ _ rfl g8 rfl 46 [.int .i64 0, .int .i64 0, .int .i64 0, .int .i64 0, .int .i64 0, .string ⟨#[]⟩, .slice none 0 0] (etyC (revE x i2 x.day A11 c11)) rfl (by rw [← HG8.out]; exact Wh.new w11 46 [.int .i64 0, .int .i64 0, .int .i64 0, .int .i64 0, .int .i64 0, .string ⟨#[]⟩, .slice none 0 0]) rfl (by kernel_rfl) (by kernel_rfl) ?_; intro w12 hr12 ho12 hz12; have hn12 : Below w11.heap.size w11 w12 := only_new (by rw [HG8.out]; exact ho12.out); have HR12 := Lib.hid hr12.out; have HB12 := Lib.hid (HB11.out.trans (hn12.mono HB11.out.size)); have hb12 := HX11.out.trans (hn12.mono HX11.out.size); have HJ12 := Lib.hid (HJq.out.up hb12); have y0 := (HRq.out.up hb12).at 0 _ rfl; have HK12 := Lib.hid (HEK.out i2 x.day A11 c11 _ _ (HO2.out.up hn12)); have HS12 : Hid (w3.heap.size ≤ w12.heap.size) := Lib.hid (Nat.le_trans HLq.out.size hb12.size); have HT12 : Hid (∀ t, M2 t → t < w12.heap.size) := Lib.hid (fun t ht => Nat.lt_of_lt_of_le (HJm.out t ht).2 hb12.size); have HL12 : Hid ((Instr.loadAt 46 (.pointer (some ⟨g8, 0, none⟩))).run Tryz.prog w12 = .ok (etyV (revE x i2 x.day A11 c11)) w12) := Lib.hid (jr_load HR12.out); clear hb12; clear hr12 ho12 hz12 hn12 hg8)
         | (go_at_call 22; refine (HRS2.out _ HJ12.out).mono ?_; rintro r w13 ⟨rfl, rfl⟩)
         | (clear HM11; refine wpList_load_if (by rfl) 46 _ rfl (.pointer (some ⟨g8, 0, none⟩)) rfl (etyV (revE x i2 x.day A11 c11)) HL12.out ?_)
         | (go_at_call 24; refine (HPO2.out A11 c11 _ HJ12.out HK12.out HS12.out HT12.out).mono ?_; rintro r w14 ⟨rfl, hb⟩; have HBE := Lib.hid (HB12.out.trans (hb.mono HB12.out.size)); clear hb))
        go_ret
        exact ⟨by first | rfl | simp, by have h9 := HB2.out.trans (HBE.out.mono HB2.out.size); first | exact h9 | (rw [← HS0.out]; exact h9)⟩
     ·have hw0 : wB = false := by simpa using hwb
      subst hw0
      have HNE : Hid (E1 ≠ 0) := Lib.hid (fun h => by have := HE1.out.1 h; cases this)
      have z1 : (E1 == 0) = false := by simpa using HNE.out
      clear hwb
      go_wp2_with (first
       | (clear HM8; refine wpList_load_is rfl 46 _ rfl (.pointer (some ⟨g7, 0, none⟩)) rfl (etyV x) (HLD.out _ HR0.out) ?_)
       | (go_at_call 25; refine (HRV.out id b _ HB0.out).mono ?_; rintro r wr1 ⟨⟨Ar, cr, rfl, hor⟩, hb⟩; have HP1 := Lib.hid (HP0.out.up hb); have HR1 := Lib.hid (HR0.out.up hb); have HB1 := Lib.hid (HB0.out.trans (hb.mono HB0.out.size)); have HO1 := Lib.hid hor; clear hor hb)
       | (go_at_call 24; refine (HPO1.out Ar cr _ HP1.out (HEK.out _ _ _ _ _ _ HO1.out)).mono ?_; rintro r wq ⟨rfl, hq⟩; have hbq := hq.no HNE.out; have HPq := Lib.hid (HP1.out.up hbq); have HOq := Lib.hid HPq.out.ow; have HBq := Lib.hid (HB1.out.trans (hbq.mono HB1.out.size)); have HRq := Lib.hid (HR1.out.up hbq); clear hq hbq))
      go_loopg [16] o9 (fun kx s16 wr => ∃ i2 : Int, s16 = .int .i64 i2 ∧ id + 1 ≤ i2 ∧ cntI Es i2 ≤ kx ∧ i2 + cntI Es i2 ≤ (o9 : Int) + 2 ∧ wr = wq)
      case atStart =>
       have h9 := cntI_le Es (id + 1)
       have h8 := cntI_mono Es id
       have h7 := HIB.out
       rw [HEL.out] at h9
       exact ⟨id + 1, by first | rfl | rw [HWI.out], by omega, h9, by omega, rfl⟩
      case round =>
       obtain ⟨i2, rfl, hid1, hkx, hid2, hV⟩ := hrel
       have hV2 := hV.symm
       subst hV2
       clear hV
       obtain ⟨q, hq⟩ : ∃ q, getP Es i2 = q := ⟨_, rfl⟩
       have HG2 := Lib.hid (HGT.out i2)
       rw [hq] at HG2
       have HI2 : Hid (id + 1 ≤ i2 ∧ i2 ≤ 63) := Lib.hid ⟨hid1, by have := HIB.out; omega⟩
       by_cases hg : 0 ≤ q
       ·have hst := cntI_step Es i2 (getP_there (by rw [hq]; exact hg))
        have d4 : decide (q ≥ 0) = true := decide_eq_true hg
        have d5 : decide (0 ≤ q) = true := decide_eq_true hg
        clear hq hg d2 d3
        have hw1 : wrap64 (i2 + 1) = i2 + 1 := by have h7 := HI2.out; have h8 := HIB.out; unfold wrap64; omega
        go_wp2_with (go_at_call 21; refine (HG2.out _ HOq.out).mono ?_; rintro r w9 ⟨rfl, rfl⟩)
        go_roundg (cntI Es (i2 + 1))
        case measure => omega
        case rel => exact ⟨i2 + 1, by first | rfl | rw [hw1], by omega, by omega, by omega, rfl⟩
       ·have d4 : decide (q ≥ 0) = false := decide_eq_false hg
        have d5 : decide (0 ≤ q) = false := decide_eq_false hg
        have HGN2 : Hid (getE Es i2 = none) := Lib.hid (get_none (by rw [hq]; omega))
        clear hq hg hkx hid1 hid2 d2 d3
        have u0 := HRq.out.at 0 _ rfl
        have u2 := HRq.out.at 2 _ rfl
        go_wp2_with (first
         | (go_at_call 21; refine (HG2.out _ HOq.out).mono ?_; rintro r w9 ⟨rfl, rfl⟩)
         | (clear HM9; refine wpList_load_is rfl 46 _ rfl (.pointer (some ⟨g7, 0, none⟩)) rfl (etyV x) (HLD.out _ HRq.out) ?_)
         | (go_at_call 25; refine (HRV.out i2 x.day _ HBq.out).mono ?_; rintro r w11 ⟨⟨A11, c11, rfl, hor⟩, hb⟩; have HO2 := Lib.hid hor; have HB11 := Lib.hid (HBq.out.trans (hb.mono HBq.out.size)); have HX11 := Lib.hid hb; obtain ⟨g8, hg8⟩ : ∃ g8, w11.heap.size = g8 := ⟨_, rfl⟩; have HG8 := Lib.hid hg8; clear hor hb)
         | (clear HM10; refine wpList_store_wh rfl 46 _ _ rfl g8 rfl 46 [.int .i64 0, .int .i64 0, .int .i64 0, .int .i64 0, .int .i64 0, .string ⟨#[]⟩, .slice none 0 0] (etyC (revE x i2 x.day A11 c11)) rfl (by rw [← HG8.out]; exact Wh.new w11 46 [.int .i64 0, .int .i64 0, .int .i64 0, .int .i64 0, .int .i64 0, .string ⟨#[]⟩, .slice none 0 0]) rfl (by kernel_rfl) (by kernel_rfl) ?_; intro w12 hr12 ho12 hz12; have hn12 : Below w11.heap.size w11 w12 := only_new (by rw [HG8.out]; exact ho12.out); have HR12 := Lib.hid hr12.out; have HB12 := Lib.hid (HB11.out.trans (hn12.mono HB11.out.size)); have hb12 := HX11.out.trans (hn12.mono HX11.out.size); have HP12 := Lib.hid (HPq.out.up hb12); have y0 := (HRq.out.up hb12).at 0 _ rfl; clear hb12; clear hr12 ho12 hz12 hn12 hg8)
         | (go_at_call 22; refine (HRS.out _ HP12.out).mono ?_; rintro r w13 ⟨rfl, rfl⟩))
        go_ret
        exact ⟨by first | rfl | simp, by have h9 := HB2.out.trans (HB12.out.mono HB2.out.size); first | exact h9 | (rw [← HS0.out]; exact h9)⟩
end Go.Proofs.YthokdplikidhiaaGreat
