/- Contracts of the functions that the statements reach, part 7: what was proved of each, callees first. -/
import Derived.WalkSpells
import Derived.Lib.SliceRun
import Derived.Test.YthokdplikidhiaaGreatJP6
namespace Go.Proofs.YthokdplikidhiaaGreat
open Go.RowKit Go.Maps
structure PE where
 id : Int
 ent : Int
 day : Int
 kind : Int
 of_ : Int
 txt : ByteArray
 ls : List Lnk
abbrev Etl := Ety × List Lnk
def pe (p : Etl) : PE := ⟨p.1.id, p.1.ent, p.1.day, p.1.kind, p.1.of_, p.1.txt, p.2⟩
def idxP (Es : List PE) (id : Int) : Nat := Es.findIdx fun e => decide (e.id = id)
def getP (Es : List PE) (id : Int) : Int := if idxP Es id < Es.length then (idxP Es id : Int) else -1
def isRv (id : Int) (e : PE) : Bool := decide (e.kind = 3) && decide (e.of_ = id)
def revO (Es : List PE) (id : Int) : Option PE := Es.find? (isRv id)
def revP (Es : List PE) (id : Int) : Int := match revO Es id with | some e => e.id | none => 0
def rvE (Es : List PE) (x : PE) : Int := if x.kind = 3 then (match Es[idxP Es x.of_]? with
 | none => 8
 | some e => if (decide (e.kind = 3) || decide (revP Es x.of_ ≠ 0)) = true then 7 else if (decide (e.ent ≠ x.ent) || (decide (x.day < e.day) || !oppB x.ls e.ls)) = true then 18 else 0) else 0
def fst4 (a b c d : Int) : Int := if a = 0 then (if b = 0 then (if c = 0 then d else c) else b) else a
def postE (c : Int) (Es : List PE) (x : PE) : Int := fst4 c (if idxP Es x.id < Es.length then 9 else 0) (rvE Es x) (if 2000 ≤ Es.length then 6 else 0)
theorem idxP_some {Es : List PE} {id : Int} (h : idxP Es id < Es.length) : ∃ e, Es[idxP Es id]? = some e ∧ e.id = id := by
 refine ⟨Es[idxP Es id], List.getElem?_eq_getElem h, ?_⟩
 have h2 : Es.findIdx (fun e : PE => decide (e.id = id)) < Es.length := h
 have := List.findIdx_getElem (p := fun e : PE => decide (e.id = id)) (xs := Es) (w := h2)
 exact of_decide_eq_true this
theorem idxP_snoc (Es : List PE) (x : PE) (id : Int) : idxP (Es ++ [x]) id = if idxP Es id < Es.length then idxP Es id else if x.id = id then Es.length else Es.length + 1 := by
 unfold idxP
 rw [List.findIdx_append]
 split
 ·rfl
 ·rename_i h
  have h1 : Es.findIdx (fun e => decide (e.id = id)) = Es.length := Nat.le_antisymm List.findIdx_le_length (Nat.le_of_not_lt h)
  by_cases h2 : x.id = id
  ·simp [h2, List.findIdx_cons]
  ·simp [h2, List.findIdx_cons]; omega
theorem revO_snoc (Es : List PE) (x : PE) (id : Int) : revO (Es ++ [x]) id = (revO Es id).or (if isRv id x = true then some x else none) := by
 unfold revO
 rw [List.find?_append]
 congr 1
 by_cases h : isRv id x = true <;> simp [h]
structure GoodP (Es : List PE) : Prop where
 pos : ∀ e ∈ Es, 1 ≤ e.id
 wf : ∀ e ∈ Es, (Lit.int .i64 e.id).wf = true
 ln : ∀ e ∈ Es, e.ls.length ≤ 1000
theorem revP_ne {Es : List PE} (h : GoodP Es) (id : Int) : (revP Es id ≠ 0) ↔ (revO Es id).isSome = true := by
 unfold revP
 cases hr : revO Es id with
 | none => simp
 | some e =>
  have := h.pos e (List.mem_of_find?_eq_some hr)
  simp
  omega
def idxF (Es : List PE) (id : Int) : Option Value := if idxP Es id < Es.length then some (.int .i64 (idxP Es id : Nat)) else none
def revF (Es : List PE) (id : Int) : Option Value := (revO Es id).map fun e => .int .i64 e.id
theorem idxF_snoc {Es : List PE} {x : PE} (h : ¬ idxP Es x.id < Es.length) (c : Int) : idxF (Es ++ [x]) c = if c = x.id then some (.int .i64 (Es.length : Nat)) else idxF Es c := by
 unfold idxF
 rw [idxP_snoc, List.length_append, List.length_singleton]
 by_cases hc : c = x.id
 ·subst hc
  rw [if_neg h, if_pos rfl, if_pos rfl, if_pos (by omega)]
 ·rw [if_neg hc]
  by_cases h1 : idxP Es c < Es.length
  ·rw [if_pos h1, if_pos h1, if_pos (by omega)]
  ·have e1 : (if idxP Es c < Es.length then idxP Es c else if x.id = c then Es.length else Es.length + 1) = Es.length + 1 := by rw [if_neg h1, if_neg (fun e => hc e.symm)]
   rw [e1, if_neg (by omega), if_neg h1]
theorem revF_snoc {Es : List PE} {x : PE} (hk : x.kind = 3) (h : revO Es x.of_ = none) (c : Int) : revF (Es ++ [x]) c = if c = x.of_ then some (.int .i64 x.id) else revF Es c := by
 unfold revF
 rw [revO_snoc]
 by_cases hc : c = x.of_
 ·subst hc
  rw [h, if_pos rfl]
  simp [isRv, hk]
 ·rw [if_neg hc]
  have : isRv c x = false := by simp [isRv, hk]; exact fun e => hc e.symm
  rw [this]
  simp
theorem revF_same {Es : List PE} {x : PE} (hk : x.kind ≠ 3) (c : Int) : revF (Es ++ [x]) c = revF Es c := by
 unfold revF
 rw [revO_snoc]
 have : isRv c x = false := by simp [isRv, hk]
 rw [this]
 simp
theorem fst4_zero {a b c d : Int} (h : fst4 a b c d = 0) : a = 0 ∧ b = 0 ∧ c = 0 ∧ d = 0 := by
 unfold fst4 at h
 by_cases h0 : a = 0
 ·by_cases h1 : b = 0
  ·by_cases h2 : c = 0
   ·rw [if_pos h0, if_pos h1, if_pos h2] at h; exact ⟨h0, h1, h2, h⟩
   ·rw [if_pos h0, if_pos h1, if_neg h2] at h; exact absurd h h2
  ·rw [if_pos h0, if_neg h1] at h; exact absurd h h1
 ·rw [if_neg h0] at h; exact absurd h h0
theorem postE_zero {c : Int} {Es : List PE} {x : PE} (hg : GoodP Es) (h : postE c Es x = 0) : c = 0 ∧ ¬ idxP Es x.id < Es.length ∧ (x.kind = 3 → revO Es x.of_ = none) := by
 obtain ⟨h0, h1, h2, -⟩ := fst4_zero h
 refine ⟨h0, (fun h3 => by rw [if_pos h3] at h1; cases h1), fun hk => ?_⟩
 unfold rvE at h2
 rw [if_pos hk] at h2
 split at h2
 ·cases h2
 ·split at h2
  ·cases h2
  ·rename_i h4
   cases hr : revO Es x.of_ with
   | none => rfl
   | some e =>
    exfalso
    have := (revP_ne hg x.of_).2 (by rw [hr]; rfl)
    simp [this] at h4
def EtysK (w : World) (Xs : List Etl) : Prop := ∀ p ∈ Xs, EtyK w p.1 p.2
theorem EtysK.up {w w' : World} {Xs : List Etl} (h : EtysK w Xs) (hb : Below w.heap.size w w') : EtysK w' Xs := fun p hp => (h p hp).up hb
structure JD where
 b : Nat
 g : Grp
 L : List Acc
 G : List Ent
 A : Option Addr
 n : Nat
 c : Nat
 Xs : List Etl
 bi : Nat
 br : Nat
def JD.Es (j : JD) : List PE := j.Xs.map pe
def JC (j : JD) : List Value := grpC j.g ++ [.slice j.A j.n j.c, .map (some j.bi), .map (some j.br)]
structure JK (M : Nat → Prop) (B : Nat) (w : World) (j : JD) : Prop where
 box : Wh 91 w j.b (JC j)
 row : OwnR lyX 46 w B (.slice j.A j.n j.c) (j.Xs.map (·.1))
 ln : j.Xs.length = j.n
 idx : MapV w j.bi j.n (idxF j.Es)
 rev : MapV w j.br j.n (revF j.Es)
 grp : Im M (fun w => GrK w j.g j.L j.G) w
 ets : Im M (fun w => EtysK w j.Xs) w
 mb : M j.b
 mi : M j.bi
 mr : M j.br
 mx : ∀ k, (Value.slice j.A j.n j.c).ownBlock = some k → M k
 ne : j.bi ≠ j.br
 hs : Sm j.g j.G
 hw : GrW j.g j.L j.G
 good : GoodP j.Es
section
variable {M : Nat → Prop} {B : Nat} {w w' : World} {j : JD}
theorem MapV.isMap {b n : Nat} {f : Int → Option Value} (h : MapV w b n f) : ∃ es k, w.heap[b]? = some (.map es k) := by
 obtain ⟨D, ⟨es, clock, hb, _⟩, _⟩ := h
 exact ⟨es, clock, hb⟩
theorem JK.up (h : JK M B w j) (hb : Below w.heap.size w w') : JK M B w' j :=
 ⟨h.box.up hb, h.row.up hb, h.ln, h.idx.up hb, h.rev.up hb, h.grp.on (Only.of hb), h.ets.on (Only.of hb), h.mb, h.mi, h.mr, h.mx, h.ne, h.hs, h.hw, h.good⟩
theorem JK.len (h : JK M B w j) : j.Es.length = j.n := by rw [← h.ln]; simp [JD.Es]
theorem JK.b_row (h : JK M B w j) : ∀ k, (Value.slice j.A j.n j.c).ownBlock = some k → k ≠ j.b := by
 intro k hk e
 subst e
 rcases h.row.2 with ⟨h1, _⟩ | ⟨g, cap, cur, h1, _, hg, _⟩
 ·rw [h1] at hk; cases hk
 ·rw [h1] at hk
  have hk2 : g = j.b := by injection hk
  rw [hk2, h.box.blk] at hg
  injection hg with hg
  injection hg with _ h2
  exact absurd h2 (by decide)
theorem JK.i_row (h : JK M B w j) : ∀ k, (Value.slice j.A j.n j.c).ownBlock = some k → k ≠ j.bi ∧ k ≠ j.br := by
 intro k hk
 rcases h.row.2 with ⟨h1, _⟩ | ⟨g, cap, cur, h1, _, hg, _⟩
 ·rw [h1] at hk; cases hk
 ·rw [h1] at hk
  have hk2 : g = k := by injection hk
  rw [hk2] at hg
  obtain ⟨e1, k1, h3⟩ := h.idx.isMap
  obtain ⟨e2, k2, h4⟩ := h.rev.isMap
  exact ⟨(fun e => by rw [e, h3] at hg; cases hg), (fun e => by rw [e, h4] at hg; cases hg)⟩
theorem JK.b_map (h : JK M B w j) : j.b ≠ j.bi ∧ j.b ≠ j.br := by
 obtain ⟨e1, k1, h3⟩ := h.idx.isMap
 obtain ⟨e2, k2, h4⟩ := h.rev.isMap
 exact ⟨(fun e => by have := h.box.blk; rw [e, h3] at this; cases this), (fun e => by have := h.box.blk; rw [e, h4] at this; cases this)⟩
end
theorem wpList_mapv_ok {w : World} {ops : Array Oper} {rest : List Oper} {o : Oper} {a : Act} {Q : Exit → Act → World → Prop} (hg : o.guard = none) (m x : Operand) (hop : o.op = Op.lookup 89 m x true)
  (b n : Nat) (f : Int → Option Value) (hm : a.eval m = .map (some b)) (hs : MapV w b n f) (c : Int) (hx : a.eval x = .int .i64 c) (hw : (Lit.int .i64 c).wf = true)
  (hK : wpList Tryz.prog ops Q rest (a.put o.dst (.tuple #[(f c).getD (.int .i64 0), .bool (f c).isSome])) w) : wpList Tryz.prog ops Q (o :: rest) a w := by
 obtain ⟨D, h1, h3⟩ := hs
 refine wpList_plain hg fun K' hK' => ?_
 obtain ⟨v, ps, hrun, hv⟩ := h1.look_ok ti_keyed Tryz.underlying89 (ti_zero w) (zd := .held (.int .i64 0)) (zp := []) rfl (keyOf_int_mk Tryz.underlying3 hw)
 have he : v = (f c).getD (.int .i64 0) := by
  rw [(h3 c).2] at hv
  simp only [heldE, Option.some.injEq, Prod.mk.injEq] at hv
  have h4 := hv.1
  cases hf : f c with
  | none => rw [hf] at h4; injection h4
  | some u => rw [hf] at h4; injection h4
 rw [(h3 c).1] at hrun
 unfold Oper.wp
 simp [execOp, hop, hm, hx, hrun, Result.andThen]
 exact hK' _ _ (he ▸ hK)
theorem wp_mapv_put {w : World} {o : Oper} {a : Act} {K : Act → World → Prop} {Q : Exit → Act → World → Prop} (m x y : Operand) (hop : o.op = Op.mapUpdate 89 m x y)
  (b n : Nat) (f : Int → Option Value) (hm : a.eval m = .map (some b)) (hs : MapV w b n f) (c : Int) (hx : a.eval x = .int .i64 c) (v : Value) (hy : a.eval y = v) (hw : (Lit.int .i64 c).wf = true) (hn : n ≤ 1000000)
  (hK : ∀ w', MapV w' b (n + 1) (fun x => if x = c then some v else f x) → w.grownBy w' (some b) → K (a.put o.dst undef) w') : Oper.wp Tryz.prog o a w K Q := by
 obtain ⟨D, h1, h3⟩ := hs
 have h2 := h1.isMap
 obtain ⟨w', hrun, h4, h5⟩ := h1.update ti_keyed Tryz.underlying89 (by unfold maxLen; omega) (val := v) (d := .held v) (ps := []) (keyOf_int_mk Tryz.underlying3 hw) rfl
 unfold Oper.wp
 simp [execOp, hop, hm, hx, hy, hrun, Result.andThen]
 refine hK w' ⟨_, h4, fun x => ?_⟩ h5
 have hkl : ∀ z : Int, WideAt.IsKeyLit (Lit.int .i64 z) := fun z => by simp [WideAt.IsKeyLit]
 by_cases hxc : x = c
 ·subst hxc
  simp only [if_true]
  exact ⟨by rw [has_put_same h2 (hkl _)]; rfl, fun z => atKey_put_same h2 (hkl _) _ _⟩
 ·simp only [if_neg hxc]
  have hne : Lit.int .i64 x ≠ Lit.int .i64 c := fun e => hxc (by injection e)
  refine ⟨by rw [has_put_other hne]; exact (h3 x).1, fun z => ?_⟩
  rw [atKey_put_other hne]
  exact (h3 x).2 z
theorem infoEx : (Tryz.prog.info? 46).map (fun i => (i.zero, i.size, i.bytes)) = some (some (.agg #[.int .i64 0, .int .i64 0, .int .i64 0, .int .i64 0, .int .i64 0, .string ⟨#[]⟩, .slice none 0 0]), 7, 80) := by kernel_rfl
def ety0 : Ety := ⟨0, 0, 0, 0, 0, ⟨#[]⟩, none, 0, 0⟩
theorem ety0_k (w : World) : EtyK w ety0 [] := ⟨rfl, LnkAt.nil, fun l hl => by cases hl⟩
open Go.RowKit
theorem infoAcJ : (Tryz.prog.info? 118).map (fun i => (i.zero, i.size, i.bytes)) = some (some (.agg #[.int .i64 0, .int .i64 0, .int .i64 0, .int .i64 0]), 4, 32) := by kernel_rfl
set_option maxRecDepth 100000 in
set_option maxHeartbeats 3200000 in
theorem cloneL_any (A : Option Addr) (c : Nat) (X : List Lnk) (w : World) (hz : RowAt lyL w A X) (hl : X.length ≤ 100000) : Calls Tryz.prog 91 #[.slice A X.length c] w fun e w' => (∃ A' c', e = .returned (.slice A' X.length c') ∧ OwnR lyL 59 w' w.heap.size (.slice A' X.length c') X) ∧ Below w.heap.size w w' := by
 obtain ⟨n, hn⟩ : ∃ n, X.length = n := ⟨_, rfl⟩
 rw [hn] at hl ⊢
 have HN := Lib.hid hn
 have HZ := Lib.hid hz
 clear hz hn
 obtain ⟨i0, hi, hz1, hz2, hz3⟩ := info_parts infoLn
 rcases A with _ | ad
 ·have hx : X = [] := by
   rcases X with _ | ⟨x, X⟩
   ·rfl
   ·obtain ⟨b, off, e, _⟩ := HZ.out (by simp)
    cases e
  have hn0 : n = 0 := by rw [← HN.out, hx]; rfl
  subst hn0
  have HX := Lib.hid hx
  clear hx
  have kn := fun w : World => Lib.run_eql_slice_nil (P := Tryz.prog) w 44 59 none 0 c 0 0 Tryz.underlying44
  go_enter Tryz.func91, Tryz.ntmps91
  go_wp2_with fail
  go_ret
  exact ⟨⟨none, 0, rfl, by rw [HX.out]; exact OwnR.nil⟩, Below.refl _ _⟩
 ·have HB := Lib.hid (below_alloc_new (w := w) (.cells #[] 59))
  have HE : Hid (OwnR lyL 59 (w.alloc (.cells #[] 59)) w.heap.size (.slice (some ⟨w.heap.size, 0, none⟩) 0 0) []) := Lib.hid (OwnR.empty (Nat.le_refl _))
  have HZ2 := Lib.hid (HZ.out.up HB.out)
  have kn := fun w : World => Lib.run_eql_slice_nil (P := Tryz.prog) w 44 59 (some ad) n c 0 0 Tryz.underlying44
  go_enter Tryz.func91, Tryz.ntmps91
  go_wp2_with (at_builtin; refine wpList_app_row (R := lyL) (v := .slice (some ⟨w.heap.size, 0, none⟩) 0 0) rfl (.tmp 5) (.tmp 6) 44 rfl i0 _ 24 Tryz.underlying44 hi hz1 hz2 hz3 (by omega) rfl rfl HE.out (some ad) n c X HN.out rfl HZ2.out (by simp; omega) (Nat.le_of_lt (by simp)) ?_; intro v5 w5 ho5 hg5 hn5; obtain ⟨A5, c5, e5, -, -⟩ := ho5.out.reads; rw [List.nil_append, HN.out] at e5; obtain rfl := e5; have HO5 : Hid (OwnR lyL 59 w5 w.heap.size (.slice A5 n c5) X) := Lib.hid ho5.out; have HB5 : Hid (Below w.heap.size w w5) := Lib.hid (HB.out.grown hg5.out (by simp) (fun k hk => Nat.le_of_eq (Option.some.inj hk))); clear ho5 hg5 hn5)
  go_ret
  exact ⟨⟨A5, c5, rfl, HO5.out⟩, HB5.out⟩
set_option maxRecDepth 100000 in
set_option maxHeartbeats 3200000 in
theorem cloneA_any (A : Option Addr) (c : Nat) (X : List Acc) (w : World) (hz : RowAt lyA w A X) (hl : X.length ≤ 100000) : Calls Tryz.prog 136 #[.slice A X.length c] w fun e w' => (∃ A' c', e = .returned (.slice A' X.length c') ∧ OwnR lyA 118 w' w.heap.size (.slice A' X.length c') X) ∧ Below w.heap.size w w' := by
 obtain ⟨n, hn⟩ : ∃ n, X.length = n := ⟨_, rfl⟩
 rw [hn] at hl ⊢
 have HN := Lib.hid hn
 have HZ := Lib.hid hz
 clear hz hn
 obtain ⟨i0, hi, hz1, hz2, hz3⟩ := info_parts infoAcJ
 rcases A with _ | ad
 ·have hx : X = [] := by
   rcases X with _ | ⟨x, X⟩
   ·rfl
   ·obtain ⟨b, off, e, _⟩ := HZ.out (by simp)
    cases e
  have hn0 : n = 0 := by rw [← HN.out, hx]; rfl
  subst hn0
  have HX := Lib.hid hx
  clear hx
  have kn := fun w : World => Lib.run_eql_slice_nil (P := Tryz.prog) w 24 118 none 0 c 0 0 Tryz.underlying24
  go_enter Tryz.func136, Tryz.ntmps136
  go_wp2_with fail
  go_ret
  exact ⟨⟨none, 0, rfl, by rw [HX.out]; exact OwnR.nil⟩, Below.refl _ _⟩
 ·have HB := Lib.hid (below_alloc_new (w := w) (.cells #[] 118))
  have HE : Hid (OwnR lyA 118 (w.alloc (.cells #[] 118)) w.heap.size (.slice (some ⟨w.heap.size, 0, none⟩) 0 0) []) := Lib.hid (OwnR.empty (Nat.le_refl _))
  have HZ2 := Lib.hid (HZ.out.up HB.out)
  have kn := fun w : World => Lib.run_eql_slice_nil (P := Tryz.prog) w 24 118 (some ad) n c 0 0 Tryz.underlying24
  go_enter Tryz.func136, Tryz.ntmps136
  go_wp2_with (at_builtin; refine wpList_app_row (R := lyA) (v := .slice (some ⟨w.heap.size, 0, none⟩) 0 0) rfl (.tmp 5) (.tmp 6) 24 rfl i0 _ 32 Tryz.underlying24 hi hz1 hz2 hz3 (by omega) rfl rfl HE.out (some ad) n c X HN.out rfl HZ2.out (by simp; omega) (Nat.le_of_lt (by simp)) ?_; intro v5 w5 ho5 hg5 hn5; obtain ⟨A5, c5, e5, -, -⟩ := ho5.out.reads; rw [List.nil_append, HN.out] at e5; obtain rfl := e5; have HO5 : Hid (OwnR lyA 118 w5 w.heap.size (.slice A5 n c5) X) := Lib.hid ho5.out; have HB5 : Hid (Below w.heap.size w w5) := Lib.hid (HB.out.grown hg5.out (by simp) (fun k hk => Nat.le_of_eq (Option.some.inj hk))); clear ho5 hg5 hn5)
  go_ret
  exact ⟨⟨A5, c5, rfl, HO5.out⟩, HB5.out⟩
set_option maxRecDepth 100000 in
set_option maxHeartbeats 3200000 in
theorem cloneE_any (A : Option Addr) (c : Nat) (X : List Ent) (w : World) (hz : RowAt lyE w A X) (hl : X.length ≤ 100000) : Calls Tryz.prog 112 #[.slice A X.length c] w fun e w' => (∃ A' c', e = .returned (.slice A' X.length c') ∧ OwnR lyE 116 w' w.heap.size (.slice A' X.length c') X) ∧ Below w.heap.size w w' := by
 obtain ⟨n, hn⟩ : ∃ n, X.length = n := ⟨_, rfl⟩
 rw [hn] at hl ⊢
 have HN := Lib.hid hn
 have HZ := Lib.hid hz
 clear hz hn
 obtain ⟨i0, hi, hz1, hz2, hz3⟩ := info_parts infoEn
 rcases A with _ | ad
 ·have hx : X = [] := by
   rcases X with _ | ⟨x, X⟩
   ·rfl
   ·obtain ⟨b, off, e, _⟩ := HZ.out (by simp)
    cases e
  have hn0 : n = 0 := by rw [← HN.out, hx]; rfl
  subst hn0
  have HX := Lib.hid hx
  clear hx
  have kn := fun w : World => Lib.run_eql_slice_nil (P := Tryz.prog) w 27 116 none 0 c 0 0 Tryz.underlying27
  go_enter Tryz.func112, Tryz.ntmps112
  go_wp2_with fail
  go_ret
  exact ⟨⟨none, 0, rfl, by rw [HX.out]; exact OwnR.nil⟩, Below.refl _ _⟩
 ·have HB := Lib.hid (below_alloc_new (w := w) (.cells #[] 116))
  have HE : Hid (OwnR lyE 116 (w.alloc (.cells #[] 116)) w.heap.size (.slice (some ⟨w.heap.size, 0, none⟩) 0 0) []) := Lib.hid (OwnR.empty (Nat.le_refl _))
  have HZ2 := Lib.hid (HZ.out.up HB.out)
  have kn := fun w : World => Lib.run_eql_slice_nil (P := Tryz.prog) w 27 116 (some ad) n c 0 0 Tryz.underlying27
  go_enter Tryz.func112, Tryz.ntmps112
  go_wp2_with (at_builtin; refine wpList_app_row (R := lyE) (v := .slice (some ⟨w.heap.size, 0, none⟩) 0 0) rfl (.tmp 5) (.tmp 6) 27 rfl i0 _ 88 Tryz.underlying27 hi hz1 hz2 hz3 (by omega) rfl rfl HE.out (some ad) n c X HN.out rfl HZ2.out (by simp; omega) (Nat.le_of_lt (by simp)) ?_; intro v5 w5 ho5 hg5 hn5; obtain ⟨A5, c5, e5, -, -⟩ := ho5.out.reads; rw [List.nil_append, HN.out] at e5; obtain rfl := e5; have HO5 : Hid (OwnR lyE 116 w5 w.heap.size (.slice A5 n c5) X) := Lib.hid ho5.out; have HB5 : Hid (Below w.heap.size w w5) := Lib.hid (HB.out.grown hg5.out (by simp) (fun k hk => Nat.le_of_eq (Option.some.inj hk))); clear ho5 hg5 hn5)
  go_ret
  exact ⟨⟨A5, c5, rfl, HO5.out⟩, HB5.out⟩
def Ety.at (x : Ety) (A : Option Addr) (c : Nat) : Ety := { x with A := A, c := c }
set_option maxRecDepth 100000 in
set_option maxHeartbeats 3200000 in
theorem copyof_any (x : Ety) (X : List Lnk) (w : World) (hx : EtyK w x X) (hn : x.n ≤ 1000) : Calls Tryz.prog 55 #[etyV x] w fun e w' => (∃ A c, e = .returned (etyV (x.at A c)) ∧ OwnR lyL 59 w' w.heap.size (.slice A x.n c) X) ∧ Below w.heap.size w w' := by
 have HC := Lib.hid (fun W (h : LnkAt W x.A X) => cloneL_any x.A x.c X W (lnk_row.2 h) (by rw [hx.ln]; omega))
 rw [hx.ln] at HC
 obtain ⟨s0, hs0⟩ : ∃ s0, w.heap.size = s0 := ⟨_, rfl⟩
 obtain ⟨w2, hw2⟩ : ∃ w2, (w.alloc (.cells (etyC x).toArray 46)).alloc (.cells #[.int .i64 0, .int .i64 0, .int .i64 0, .int .i64 0, .int .i64 0, .string ⟨#[]⟩, .slice none 0 0] 46) = w2 := ⟨_, rfl⟩
 have hXB : Wh 46 w2 s0 (etyC x) := by rw [← hw2, ← hs0]; exact (Wh.new w _ _).up (below_alloc_new _)
 have HRB : Hid (Wh 46 w2 (s0 + 1) [.int .i64 0, .int .i64 0, .int .i64 0, .int .i64 0, .int .i64 0, .string ⟨#[]⟩, .slice none 0 0]) := Lib.hid (by
  rw [← hw2, ← hs0]
  have h9 := Wh.new (w.alloc (.cells (etyC x).toArray 46)) 46 [.int .i64 0, .int .i64 0, .int .i64 0, .int .i64 0, .int .i64 0, .string ⟨#[]⟩, .slice none 0 0]
  rw [World.size_alloc] at h9
  exact h9)
 have HB2 : Hid (Below s0 w w2) := Lib.hid (by rw [← hw2, ← hs0]; exact below_new (below_alloc_new _) _)
 have HS2 : Hid (w2.heap.size = s0 + 2) := Lib.hid (by rw [← hw2, ← hs0]; simp)
 have HX2 := Lib.hid (hx.hz.up (HB2.out.mono (Nat.le_of_eq hs0)))
 have c6 := hXB.at 6 _ rfl
 have HXB := Lib.hid hXB
 have HS0 := Lib.hid hs0
 have hw3 : (etyC x).toArray = #[.int .i64 x.id, .int .i64 x.ent, .int .i64 x.day, .int .i64 x.kind, .int .i64 x.of_, .string x.txt, .slice x.A x.n x.c] := rfl
 rw [hw3] at hw2
 clear hx hw3 hXB
 go_enter Tryz.func55, Tryz.ntmps55
 go_upto_region 2 with (go_at_call 91; refine (HC.out _ HX2.out).mono ?_; rintro e w3 ⟨⟨A, c, rfl, ho⟩, hb⟩; have hx3 := HXB.out.up hb; have z6 := hx3.at 6 _ rfl; have y6 := hx3.frozen 6; have HX3 := Lib.hid hx3; have HR3 := Lib.hid (HRB.out.up hb); have HO3 := Lib.hid ho; have HB3 := Lib.hid hb; clear hx3 ho hb)
 have hX4 : Wh 46 (w3.setCell ⟨s0, 6, none⟩ (.slice A x.n c)) s0 (etyC (x.at A c)) := HX3.out.set 6 _
 have hR4 := HR3.out.same (Below.heap_setCell w3 ⟨s0, 6, none⟩ (.slice A x.n c) (s0 + 1) (by show s0 + 1 ≠ s0; omega))
 have hO4 : OwnR lyL 59 (w3.setCell ⟨s0, 6, none⟩ (.slice A x.n c)) w2.heap.size (.slice A x.n c) X := HO3.out.blk fun g hg => Below.heap_setCell w3 ⟨s0, 6, none⟩ _ g (by have := (HO3.out.lt hg).1; have := HS2.out; show g ≠ s0; omega)
 have hB4 : Below s0 w (w3.setCell ⟨s0, 6, none⟩ (.slice A x.n c)) := Below.setCell (p := ⟨s0, 6, none⟩) (HB2.out.trans (HB3.out.mono (by have := HS2.out; omega))) (Nat.le_refl _) _
 clear z6 y6 c6 HX3 HR3 HO3 HB3 HXB HRB HX2 hw2
 generalize w3.setCell ⟨s0, 6, none⟩ (.slice A x.n c) = w4 at *
 have HL : Hid ((Instr.loadAt 46 (.pointer (some ⟨s0, 0, none⟩))).run Tryz.prog w4 = .ok (etyV (x.at A c)) w4) := Lib.hid (hX4.rg.load 0 46 (etyC (x.at A c)) rfl _ Tryz.underlying46 rfl (by kernel_rfl))
 have HR4 := Lib.hid hR4
 have HO4 := Lib.hid hO4
 have HB4 := Lib.hid hB4
 have HM1 : True := trivial
 clear hX4 hR4 hO4 hB4
 go_wp2_with (first
  | (clear HM1; refine wpList_load_is rfl 46 _ rfl (.pointer (some ⟨s0, 0, none⟩)) rfl (etyV (x.at A c)) HL.out ?_)
  | (refine wpList_store_wh rfl 46 _ _ rfl (s0 + 1) rfl 46 [.int .i64 0, .int .i64 0, .int .i64 0, .int .i64 0, .int .i64 0, .string ⟨#[]⟩, .slice none 0 0] (etyC (x.at A c)) rfl HR4.out rfl (by kernel_rfl) (by kernel_rfl) ?_; intro w5 hr5 ho5 hz5))
 refine bodyPost_ret (v := etyV (x.at A c)) (results_cell_mid Tryz.results55 _ _ (s0 + 1) (etyC (x.at A c)) _ rfl hr5.out.range Tryz.underlying46 rfl (by kernel_rfl)) rfl ⟨⟨A, c, rfl, ?_⟩, ?_⟩
 ·exact (HO4.out.blk fun g hg => ho5.out.blk g (HO4.out.lt hg).2 (by have := (HO4.out.lt hg).1; have := HS2.out; show ¬ g = s0 + 1; omega)).low (by have := HS2.out; have := HS0.out; omega)
 ·have h9 := HB4.out.trans (ho5.out.below (B := s0) (fun k hk => by have h8 : k = s0 + 1 := hk; omega) (by have := HB4.out.size; have := HS0.out; omega))
  first | exact h9 | (rw [HS0.out]; exact h9)
theorem OwnR.frozen {α : Type} {R : Lay α} {e : TypeId} {w : World} {base g n c : Nat} {L : List α} (h : OwnR R e w base (.slice (some ⟨g, 0, none⟩) n c) L) (i : Nat) : w.frozen? ⟨g, i, none⟩ = false := by
 rcases h.2 with ⟨h1, _⟩ | ⟨g', cap, cur, h1, _, hg, _⟩
 ·cases h1
 ·injection h1 with h1 _ _
  injection h1 with h1
  injection h1 with h1 _ _
  subst h1
  simp [World.frozen?, hg]
def noPar (a : Acc) : Acc := { a with par := 0 }
theorem nopar_step {L : List Acc} {k : Nat} {a : Acc} (h : L[k]? = some a) : (((L.take k).map noPar) ++ L.drop k)[k]? = some a ∧ (((L.take k).map noPar) ++ L.drop k).set k (noPar a) = (L.take (k + 1)).map noPar ++ L.drop (k + 1) := by
 have hk : k < L.length := (List.getElem?_eq_some_iff.1 h).1
 have h1 : ((L.take k).map noPar).length = k := by rw [List.length_map, List.length_take]; omega
 have h2 : L.drop k = a :: L.drop (k + 1) := by
  rw [List.drop_eq_getElem_cons hk]
  rw [List.getElem?_eq_getElem hk] at h
  injection h with h
  rw [h]
 have h3 : L.take (k + 1) = L.take k ++ [a] := by rw [List.take_add_one, h]; rfl
 constructor
 ·rw [List.getElem?_append_right (by omega), h1, Nat.sub_self, h2]; rfl
 ·rw [List.set_append_right _ _ (by omega), h1, Nat.sub_self, h2, List.set_cons_zero, h3, List.map_append, List.append_assoc]; rfl
set_option maxRecDepth 100000 in
set_option maxHeartbeats 3200000 in
theorem wop_any (A : Option Addr) (c : Nat) (L : List Acc) (w : World) (hz : RowAt lyA w A L) (hl : L.length ≤ 1000) : Calls Tryz.prog 111 #[.slice A L.length c] w fun e w' => (∃ A' c', e = .returned (.slice A' L.length c') ∧ OwnR lyA 118 w' w.heap.size (.slice A' L.length c') (L.map noPar)) ∧ Below w.heap.size w w' := by
 have HC := Lib.hid (cloneA_any A c L w hz (by omega))
 obtain ⟨n, hn⟩ : ∃ n, L.length = n := ⟨_, rfl⟩
 rw [hn] at HC hl ⊢
 have HN := Lib.hid hn
 clear hz hn
 go_enter Tryz.func111, Tryz.ntmps111
 go_wp2_with (go_at_call 136; refine HC.out.mono ?_; rintro e w2 ⟨⟨A2, c2, rfl, ho⟩, hb⟩; have HO := Lib.hid ho; have HB := Lib.hid hb; clear ho hb)
 go_loopg [9] n (fun kx s9 wr => ∃ k : Nat, s9 = .int .i64 k ∧ k ≤ n ∧ n - k ≤ kx ∧ Hid (OwnR lyA 118 wr w.heap.size (.slice A2 n c2) ((L.take k).map noPar ++ L.drop k)) ∧ Hid (Below w.heap.size w wr))
 case atStart => exact ⟨0, rfl, by omega, by omega, HO, HB⟩
 case round =>
  clear HO HB
  obtain ⟨k, rfl, hk, hkx, HO, HB⟩ := hrel
  by_cases hlt : k < n
  ·have hltz : (k : Int) < (n : Int) := by omega
   obtain ⟨a, ha⟩ : ∃ a, L[k]? = some a := ⟨_, List.getElem?_eq_getElem (by rw [HN.out]; exact hlt)⟩
   obtain ⟨h1, h2⟩ := nopar_step ha
   obtain ⟨A9, c9, e9, hr, hg⟩ := HO.out.reads
   injection e9 with e9 q1 q2
   subst e9
   clear q1 q2
   obtain ⟨g, off, rfl, hgl, hrg⟩ := hr.at h1
   obtain ⟨-, rfl⟩ := hg g off rfl
   have z3 : wr.cell? ⟨g, k * 4 + 3, none⟩ = some (.int .i64 a.par) := by have := hrg 3 _ rfl; rwa [Nat.zero_add] at this
   have y3 := HO.out.frozen (k * 4 + 3)
   have HO2 : Hid (OwnR lyA 118 (wr.setCell ⟨g, k * 4 + 3, none⟩ (.int .i64 0)) w.heap.size (.slice (some ⟨g, 0, none⟩) n c2) ((L.take (k + 1)).map noPar ++ L.drop (k + 1))) := Lib.hid (by rw [← h2]; exact HO.out.setf (j := 3) h1 (by decide) _ rfl)
   have HB2 : Hid (Below w.heap.size w (wr.setCell ⟨g, k * 4 + 3, none⟩ (.int .i64 0))) := Lib.hid (Below.setCell (p := ⟨g, k * 4 + 3, none⟩) HB.out (HO.out.lt rfl).1 _)
   clear hr hrg hg ha h1 h2 HO HB
   go_wp2_with fail
   go_roundg (n - (k + 1))
   case measure => omega
   case rel => exact ⟨k + 1, by go_num, by omega, by omega, HO2, HB2⟩
  ·obtain rfl : k = n := by omega
   have hltz : ¬ (k : Int) < (k : Int) := by omega
   have hO9 := HO.out
   rw [← HN.out, List.take_length, List.drop_length, List.append_nil, HN.out] at hO9
   have HO9 := Lib.hid hO9
   clear hO9
   go_wp2_with fail
   go_ret
   exact ⟨⟨A2, c2, rfl, HO9.out⟩, HB.out⟩
theorem allocs_old : ∀ (os : List Obj) (w : World) (k : Nat), k < w.heap.size → (os.foldl World.alloc w).heap[k]? = w.heap[k]?
 | [], _, _, _ => rfl
 | o :: os, w, k, h => by
  rw [List.foldl_cons, allocs_old os _ k (by simp; omega), show (w.alloc o).heap[k]? = w.heap[k]? from Below.heap_alloc w o k h]
theorem allocs_at : ∀ (os : List Obj) (w : World) (i : Nat) (o : Obj), os[i]? = some o → (os.foldl World.alloc w).heap[w.heap.size + i]? = some o
 | [], _, _, _, h => by simp at h
 | x :: os, w, 0, o, h => by
  simp at h; subst h
  rw [List.foldl_cons, Nat.add_zero, allocs_old os _ _ (by simp)]
  exact heap_alloc_new w x
 | x :: os, w, i + 1, o, h => by
  have := allocs_at os (w.alloc x) i o (by simpa using h)
  rw [World.size_alloc, show w.heap.size + 1 + i = w.heap.size + (i + 1) by omega] at this
  exact this
theorem allocs_below : ∀ (os : List Obj) (w : World), Below w.heap.size w (os.foldl World.alloc w)
 | [], w => Below.refl _ _
 | o :: os, w => (below_alloc_new o).trans ((allocs_below os (w.alloc o)).mono (by simp))
def crow : Nat → List Int
 | 0 => [1000, 1010, 1100, 1200]
 | 1 => [1300, 1500, 1600, 1700]
 | 2 => [2000, 2100]
 | 3 => [3000, 3100, 3200, 3300, 3400, 3500]
 | 4 => [4000, 4100, 4500, 4600, 4700]
 | 5 => [5000, 5100, 5500, 5600, 5700]
 | _ => []
def krow (i : Nat) : Int := [1, 1, 2, 3, 4, 5].getD i 0
def brow (i : Nat) : Int := [1, 3, 1, 3, 2, 2].getD i 0
def parN (c : Int) : Int := if c = 1010 ∨ c = 1100 ∨ c = 1200 then 1000 else if c = 2100 ∨ c = 4100 then c - 100 else 0
def accN (i k : Nat) : Acc := ⟨(crow i).getD k 0, krow i, brow i, parN ((crow i).getD k 0)⟩
def scN (i k : Nat) : List Acc := ((List.range i).flatMap fun r => (List.range (crow r).length).map (accN r)) ++ (List.range k).map (accN i)
theorem scN_k (i k : Nat) : scN i (k + 1) = scN i k ++ [accN i k] := by simp [scN, List.range_succ]
theorem scN_i (i : Nat) : scN (i + 1) 0 = scN i (crow i).length := by simp [scN, List.range_succ]
def smpL : List Acc := scN 6 0
theorem crow_len (i : Nat) : (crow i).length ≤ 6 := by
 unfold crow
 split <;> simp
theorem scN_len : ∀ i k, i ≤ 6 → k ≤ 6 → (scN i k).length ≤ 100 := by
 intro i k hi hk
 have h : ∀ i, i ≤ 6 → (scN i 0).length ≤ 50 := by decide
 have := h i hi
 have e : (scN i k).length = (scN i 0).length + k := by simp [scN]
 omega
theorem infoAc : (Tryz.prog.info? 118).map (fun i => (i.zero, i.size, i.bytes)) = some (some (.agg #[.int .i64 0, .int .i64 0, .int .i64 0, .int .i64 0]), 4, 32) := by kernel_rfl
def spC (c k b : Int) : Nat → List Value
 | 2 => [.int .i64 c, .int .i64 k, .int .i64 b, .int .i64 0]
 | _ => [.int .i64 0, .int .i64 0, .int .i64 0, .int .i64 0]
def spJ (wi : World) (c k b : Int) (n : Nat) (l : List Value) (W : World) : Prop := Below wi.heap.size wi W ∧ ∀ v, l = [v] → ∃ g, v = .pointer (some ⟨g, 0, none⟩) ∧ wi.heap.size ≤ g ∧ Wh 118 W g (spC c k b n)
theorem spJ.st (wi : World) (c k b : Int) (n : Nat) (l : List Value) (W W' : World) (hb : Below W.heap.size W W') (h : spJ wi c k b n l W) : spJ wi c k b n l W' :=
 ⟨h.1.trans (hb.mono h.1.size), fun v hv => by obtain ⟨g, h1, h2, h3⟩ := h.2 v hv; exact ⟨g, h1, h2, h3.up hb⟩⟩
def spFa (s0 i k n : Nat) (c : Int) : List (Nat × AK.Fact (SizeUp)) := [(35, AK.Fact.is (.slice (some ⟨s0 + 6, 0, none⟩) 6 6)), (36, AK.Fact.is (.int .i64 (i : Int))), (37, AK.Fact.is (.pointer (some ⟨s0 + 6, i * 3, none⟩))), (38, AK.Fact.is (.pointer (some ⟨s0 + 6, i * 3 + 2, none⟩))), (39, AK.Fact.is (.slice (some ⟨s0 + i, 0, none⟩) n n)), (40, AK.Fact.is (.int .i64 (k : Int))), (41, AK.Fact.is (.pointer (some ⟨s0 + i, k, none⟩))), (42, AK.Fact.is (.int .i64 c)), (43, AK.Fact.is (.slice (some ⟨s0 + 6, 0, none⟩) 6 6)), (44, AK.Fact.is (.int .i64 (i : Int))), (45, AK.Fact.is (.pointer (some ⟨s0 + 6, i * 3, none⟩))), (46, AK.Fact.is (.pointer (some ⟨s0 + 6, i * 3, none⟩))), (47, AK.Fact.is (.int .i64 (krow i))), (48, AK.Fact.is (.slice (some ⟨s0 + 6, 0, none⟩) 6 6)), (49, AK.Fact.is (.int .i64 (i : Int))), (50, AK.Fact.is (.pointer (some ⟨s0 + 6, i * 3, none⟩))), (51, AK.Fact.is (.pointer (some ⟨s0 + 6, i * 3 + 1, none⟩))), (52, AK.Fact.is (.int .i64 (brow i))), (53, AK.Fact.is (.agg #[.int .i64 c, .int .i64 (krow i), .int .i64 (brow i), .int .i64 0])), (5, AK.Fact.triv)]
set_option maxRecDepth 100000 in
set_option maxHeartbeats 12800000 in
theorem spchart_any (w : World) : Calls Tryz.prog 77 #[] w fun e w' => (∃ A c, e = .returned (.slice A smpL.length c) ∧ ∃ B, w.heap.size ≤ B ∧ OwnR lyA 118 w' B (.slice A smpL.length c) smpL) ∧ Below w.heap.size w w' := by
 obtain ⟨s0, hs0⟩ : ∃ s0, w.heap.size = s0 := ⟨_, rfl⟩
 obtain ⟨w2, hw2⟩ : ∃ w2, (((((((w.alloc (.cells #[.int .i64 1000, .int .i64 1010, .int .i64 1100, .int .i64 1200] 3)).alloc (.cells #[.int .i64 1300, .int .i64 1500, .int .i64 1600, .int .i64 1700] 3)).alloc (.cells #[.int .i64 2000, .int .i64 2100] 3)).alloc (.cells #[.int .i64 3000, .int .i64 3100, .int .i64 3200, .int .i64 3300, .int .i64 3400, .int .i64 3500] 3)).alloc (.cells #[.int .i64 4000, .int .i64 4100, .int .i64 4500, .int .i64 4600, .int .i64 4700] 3)).alloc (.cells #[.int .i64 5000, .int .i64 5100, .int .i64 5500, .int .i64 5600, .int .i64 5700] 3)).alloc (.cells #[.int .i64 1, .int .i64 1, .slice (some ⟨s0, 0, none⟩) 4 4, .int .i64 1, .int .i64 3, .slice (some ⟨s0 + 1, 0, none⟩) 4 4, .int .i64 2, .int .i64 1, .slice (some ⟨s0 + 2, 0, none⟩) 2 2, .int .i64 3, .int .i64 3, .slice (some ⟨s0 + 3, 0, none⟩) 6 6, .int .i64 4, .int .i64 2, .slice (some ⟨s0 + 4, 0, none⟩) 5 5, .int .i64 5, .int .i64 2, .slice (some ⟨s0 + 5, 0, none⟩) 5 5] 142)) = w2 := ⟨_, rfl⟩
 have hw2' : [.cells #[.int .i64 1000, .int .i64 1010, .int .i64 1100, .int .i64 1200] 3, .cells #[.int .i64 1300, .int .i64 1500, .int .i64 1600, .int .i64 1700] 3, .cells #[.int .i64 2000, .int .i64 2100] 3, .cells #[.int .i64 3000, .int .i64 3100, .int .i64 3200, .int .i64 3300, .int .i64 3400, .int .i64 3500] 3, .cells #[.int .i64 4000, .int .i64 4100, .int .i64 4500, .int .i64 4600, .int .i64 4700] 3, .cells #[.int .i64 5000, .int .i64 5100, .int .i64 5500, .int .i64 5600, .int .i64 5700] 3, .cells #[.int .i64 1, .int .i64 1, .slice (some ⟨s0, 0, none⟩) 4 4, .int .i64 1, .int .i64 3, .slice (some ⟨s0 + 1, 0, none⟩) 4 4, .int .i64 2, .int .i64 1, .slice (some ⟨s0 + 2, 0, none⟩) 2 2, .int .i64 3, .int .i64 3, .slice (some ⟨s0 + 3, 0, none⟩) 6 6, .int .i64 4, .int .i64 2, .slice (some ⟨s0 + 4, 0, none⟩) 5 5, .int .i64 5, .int .i64 2, .slice (some ⟨s0 + 5, 0, none⟩) 5 5] 142].foldl World.alloc w = w2 := hw2
 obtain ⟨i0, hi, hz1, hz2, hz3⟩ := info_parts infoAc
 have HBK : ∀ i o, [.cells #[.int .i64 1000, .int .i64 1010, .int .i64 1100, .int .i64 1200] 3, .cells #[.int .i64 1300, .int .i64 1500, .int .i64 1600, .int .i64 1700] 3, .cells #[.int .i64 2000, .int .i64 2100] 3, .cells #[.int .i64 3000, .int .i64 3100, .int .i64 3200, .int .i64 3300, .int .i64 3400, .int .i64 3500] 3, .cells #[.int .i64 4000, .int .i64 4100, .int .i64 4500, .int .i64 4600, .int .i64 4700] 3, .cells #[.int .i64 5000, .int .i64 5100, .int .i64 5500, .int .i64 5600, .int .i64 5700] 3, .cells #[.int .i64 1, .int .i64 1, .slice (some ⟨s0, 0, none⟩) 4 4, .int .i64 1, .int .i64 3, .slice (some ⟨s0 + 1, 0, none⟩) 4 4, .int .i64 2, .int .i64 1, .slice (some ⟨s0 + 2, 0, none⟩) 2 2, .int .i64 3, .int .i64 3, .slice (some ⟨s0 + 3, 0, none⟩) 6 6, .int .i64 4, .int .i64 2, .slice (some ⟨s0 + 4, 0, none⟩) 5 5, .int .i64 5, .int .i64 2, .slice (some ⟨s0 + 5, 0, none⟩) 5 5] 142][i]? = some o → w2.heap[s0 + i]? = some o := fun i o h => by
  have := allocs_at [.cells #[.int .i64 1000, .int .i64 1010, .int .i64 1100, .int .i64 1200] 3, .cells #[.int .i64 1300, .int .i64 1500, .int .i64 1600, .int .i64 1700] 3, .cells #[.int .i64 2000, .int .i64 2100] 3, .cells #[.int .i64 3000, .int .i64 3100, .int .i64 3200, .int .i64 3300, .int .i64 3400, .int .i64 3500] 3, .cells #[.int .i64 4000, .int .i64 4100, .int .i64 4500, .int .i64 4600, .int .i64 4700] 3, .cells #[.int .i64 5000, .int .i64 5100, .int .i64 5500, .int .i64 5600, .int .i64 5700] 3, .cells #[.int .i64 1, .int .i64 1, .slice (some ⟨s0, 0, none⟩) 4 4, .int .i64 1, .int .i64 3, .slice (some ⟨s0 + 1, 0, none⟩) 4 4, .int .i64 2, .int .i64 1, .slice (some ⟨s0 + 2, 0, none⟩) 2 2, .int .i64 3, .int .i64 3, .slice (some ⟨s0 + 3, 0, none⟩) 6 6, .int .i64 4, .int .i64 2, .slice (some ⟨s0 + 4, 0, none⟩) 5 5, .int .i64 5, .int .i64 2, .slice (some ⟨s0 + 5, 0, none⟩) 5 5] 142] w i o h
  rw [hw2', hs0] at this
  exact this
 have HRW : Hid (Wh 142 w2 (s0 + 6) [.int .i64 1, .int .i64 1, .slice (some ⟨s0, 0, none⟩) 4 4, .int .i64 1, .int .i64 3, .slice (some ⟨s0 + 1, 0, none⟩) 4 4, .int .i64 2, .int .i64 1, .slice (some ⟨s0 + 2, 0, none⟩) 2 2, .int .i64 3, .int .i64 3, .slice (some ⟨s0 + 3, 0, none⟩) 6 6, .int .i64 4, .int .i64 2, .slice (some ⟨s0 + 4, 0, none⟩) 5 5, .int .i64 5, .int .i64 2, .slice (some ⟨s0 + 5, 0, none⟩) 5 5]) := Lib.hid ⟨HBK 6 _ rfl⟩
 have HCW : Hid (∀ i, i < 6 → Wh 3 w2 (s0 + i) ((crow i).map (.int .i64 ·))) := Lib.hid (fun i hi => by
  match i, hi with
  | 0, _ => exact ⟨HBK 0 _ rfl⟩
  | 1, _ => exact ⟨HBK 1 _ rfl⟩
  | 2, _ => exact ⟨HBK 2 _ rfl⟩
  | 3, _ => exact ⟨HBK 3 _ rfl⟩
  | 4, _ => exact ⟨HBK 4 _ rfl⟩
  | 5, _ => exact ⟨HBK 5 _ rfl⟩)
 have HR : Hid (∀ W, Below w2.heap.size w2 W → ∀ i, i < 6 → W.cell? ⟨s0 + 6, i * 3, none⟩ = some (.int .i64 (krow i)) ∧ W.cell? ⟨s0 + 6, i * 3 + 1, none⟩ = some (.int .i64 (brow i)) ∧ W.cell? ⟨s0 + 6, i * 3 + 2, none⟩ = some (.slice (some ⟨s0 + i, 0, none⟩) (crow i).length (crow i).length)) := Lib.hid (fun W hb i hi => by
  have h := HRW.out.up hb
  match i, hi with
  | 0, _ | 1, _ | 2, _ | 3, _ | 4, _ | 5, _ => exact ⟨h.at _ _ rfl, h.at _ _ rfl, h.at _ _ rfl⟩)
 have hB2 : Below s0 w w2 := by rw [← hw2', ← hs0]; exact allocs_below _ _
 have HB2 := Lib.hid hB2
 have hS1 : w2.heap.size = s0 + 7 := by rw [← hw2, ← hs0]; simp
 obtain ⟨s1, hs1⟩ : ∃ s1, w2.heap.size = s1 := ⟨_, rfl⟩
 have HS1 := Lib.hid hs1
 have HS07 : Hid (s1 = s0 + 7) := Lib.hid (by rw [← hs1]; exact hS1)
 have HS0 := Lib.hid hs0
 clear HBK hw2' hB2 hS1 HRW
 go_enter Tryz.func77, Tryz.ntmps77
 go_wp2_with fail
 clear hw2 hs1 hs0
 go_loopg [2, 3] 6 (fun kx s2 s3 wr => ∃ i : Nat, s3 = .int .i64 i ∧ i ≤ 6 ∧ 6 - i ≤ kx ∧ Hid (OwnR lyA 118 wr s1 s2 (scN i 0)) ∧ Below s1 w2 wr)
 case atStart => exact ⟨0, rfl, by omega, by omega, Lib.hid OwnR.nil, Below.refl _ _⟩
 case round =>
  obtain ⟨i, rfl, hil, hkx, HOo, hBo⟩ := hrel
  by_cases hlt : i < 6
  ·have hltz : (i : Int) < 6 := by omega
   obtain ⟨n, hn⟩ : ∃ n, (crow i).length = n := ⟨_, rfl⟩
   have HN := Lib.hid hn
   have hn6 : n ≤ 6 := by rw [← hn]; exact crow_len i
   have HBo := Lib.hid hBo
   clear hBo hn
   go_wp2_with fail
   go_loopg [4, 2] n (fun jx s4 s2 W => ∃ k : Nat, s4 = .int .i64 k ∧ k ≤ n ∧ n - k ≤ jx ∧ Hid (OwnR lyA 118 W s1 s2 (scN i k)) ∧ Below s1 w2 W)
   case atStart => exact ⟨0, rfl, by omega, by omega, HOo, HBo.out⟩
   case round =>
    clear HOo HBo
    rename World => wi
    obtain ⟨k, rfl, hk, hjx, HO, hBi⟩ := hrel
    have HBI : Hid (Below w2.heap.size w2 wi) := Lib.hid (by rw [HS1.out]; exact hBi)
    have hrow := HR.out wi HBI.out i hlt
    rw [HN.out] at hrow
    obtain ⟨r0, r1, r2⟩ := hrow
    clear hBi
    by_cases hkl : k < n
    ·have hklz : (k : Int) < (n : Int) := by omega
     obtain ⟨c, hc⟩ : ∃ c, (crow i).getD k 0 = c := ⟨_, rfl⟩
     have HAN : Hid (accN i k = ⟨c, krow i, brow i, parN c⟩) := Lib.hid (by unfold accN; rw [hc])
     have HQ : Hid (∀ W, Below w2.heap.size w2 W → W.cell? ⟨s0 + i, k, none⟩ = some (.int .i64 c)) := Lib.hid (fun W hb => ((HCW.out i hlt).up hb).at k _ (by
      rw [List.getElem?_map, List.getElem?_eq_getElem (by rw [HN.out]; exact hkl)]
      rw [List.getD_eq_getElem?_getD, List.getElem?_eq_getElem (by rw [HN.out]; exact hkl)] at hc
      rw [← hc]; rfl))
     have HLN := Lib.hid (scN_len i k (by omega) (by omega))
     clear hc
     by_cases hc1010 : c = 1010
     ·subst hc1010
      have hpar : parN 1010 = 1000 := rfl
      have HAN2 : Hid (accN i k = ⟨1010, krow i, brow i, 1000⟩) := Lib.hid (by rw [HAN.out, hpar])
      clear HAN hpar 
      go_wp2_with fail
      refine AK.region_facts (Rp := Below0) (Kp := SizeUp) (spFa s0 i k n 1010) (spJ wi 1010 (krow i) (brow i)) [[], [], [35, 36], [37], [38], [], [39, 40], [41], [], [], [43, 44], [45], [46], [], [], [48, 49], [50], [51], [42, 47, 52], [], [53]] [19, 20] [[], [5], [5]] [2, 2, 2, 2, 2, 2, 2, 2, 2, 2, 2, 2, 2, 2, 2, 2, 2, 2, 2, 2, 2] [0, 0, 0, 0, 0, 0, 0, 0, 0, 0, 0, 0, 0, 0, 0, 0, 0, 0, 0, 0, 0] [] (fun u => by simp only [spFa, AK.temps, List.map_cons, List.map_nil, fillL, List.setIfInBounds_toArray, List.set_cons_zero, List.set_cons_succ]; rfl) (by kernel_rfl) (by kernel_rfl) (fun _ _ h => h) (fun _ _ h => h.size) (spJ.st wi 1010 (krow i) (brow i)) (⟨dc_drew (Below.refl _ _), fun v h => by cases h⟩) ?_ ?_
      ·refine AK.sc (lim := 2) (lo := 0) rfl rfl rfl rfl ?_ ?_
       ·intro k_ u w_ hk_ hl_ hJ hF K hK
        clear hF
        go_simp
        exact hK.out _ _ (Below.refl _ _) (rfl) trivial
       refine AK.sc (lim := 2) (lo := 0) rfl rfl rfl rfl ?_ ?_
       ·intro k_ u w_ hk_ hl_ hJ hF K hK
        clear hF
        go_simp
        exact hK.out _ _ (Below.refl _ _) (rfl) trivial
       refine AK.sc (lim := 2) (lo := 0) rfl rfl rfl rfl ?_ ?_
       ·intro k_ u w_ hk_ hl_ hJ hF K hK
        have h35 : u 35 = .slice (some ⟨s0 + 6, 0, none⟩) 6 6 := AK.facts_get hF 35 (by simp)
        have h36 : u 36 = .int .i64 (i : Int) := AK.facts_get hF 36 (by simp)
        clear hF
        simp only [h35, h36] at hK ⊢
        clear h35 h36
        go_simp
        exact hK.out _ _ (Below.refl _ _) (rfl) trivial
       refine AK.sc (lim := 2) (lo := 0) rfl rfl rfl rfl ?_ ?_
       ·intro k_ u w_ hk_ hl_ hJ hF K hK
        have h37 : u 37 = .pointer (some ⟨s0 + 6, i * 3, none⟩) := AK.facts_get hF 37 (by simp)
        clear hF
        simp only [h37] at hK ⊢
        clear h37
        go_simp
        exact hK.out _ _ (Below.refl _ _) (rfl) trivial
       refine AK.sc (lim := 2) (lo := 0) rfl rfl rfl rfl ?_ ?_
       ·intro k_ u w_ hk_ hl_ hJ hF K hK
        have h38 : u 38 = .pointer (some ⟨s0 + 6, i * 3 + 2, none⟩) := AK.facts_get hF 38 (by simp)
        clear hF
        simp only [h38] at hK ⊢
        clear h38
        have hc9 := HR.out _ (HBI.out.trans (hJ.1.mono HBI.out.size)) i hlt
        obtain ⟨r0, r1, r2⟩ := hc9
        rw [HN.out] at r2
        go_simp
        exact hK.out _ _ (Below.refl _ _) (rfl) trivial
       refine AK.sc (lim := 2) (lo := 0) rfl rfl rfl rfl ?_ ?_
       ·intro k_ u w_ hk_ hl_ hJ hF K hK
        clear hF
        go_simp
        exact hK.out _ _ (Below.refl _ _) (rfl) trivial
       refine AK.sc (lim := 2) (lo := 0) rfl rfl rfl rfl ?_ ?_
       ·intro k_ u w_ hk_ hl_ hJ hF K hK
        have h39 : u 39 = .slice (some ⟨s0 + i, 0, none⟩) n n := AK.facts_get hF 39 (by simp)
        have h40 : u 40 = .int .i64 (k : Int) := AK.facts_get hF 40 (by simp)
        clear hF
        simp only [h39, h40] at hK ⊢
        clear h39 h40
        go_simp
        exact hK.out _ _ (Below.refl _ _) (rfl) trivial
       refine AK.sc (lim := 2) (lo := 0) rfl rfl rfl rfl ?_ ?_
       ·intro k_ u w_ hk_ hl_ hJ hF K hK
        have h41 : u 41 = .pointer (some ⟨s0 + i, k, none⟩) := AK.facts_get hF 41 (by simp)
        clear hF
        simp only [h41] at hK ⊢
        clear h41
        have q0 := HQ.out _ (HBI.out.trans (hJ.1.mono HBI.out.size))
        go_simp
        exact hK.out _ _ (Below.refl _ _) (rfl) trivial
       refine AK.sc (lim := 2) (lo := 0) rfl rfl rfl rfl ?_ ?_
       ·intro k_ u w_ hk_ hl_ hJ hF K hK
        clear hF
        go_simp
        exact hK.out _ _ (Below.refl _ _) (rfl) trivial
       refine AK.sc (lim := 2) (lo := 0) rfl rfl rfl rfl ?_ ?_
       ·intro k_ u w_ hk_ hl_ hJ hF K hK
        clear hF
        go_simp
        exact hK.out _ _ (Below.refl _ _) (rfl) trivial
       refine AK.sc (lim := 2) (lo := 0) rfl rfl rfl rfl ?_ ?_
       ·intro k_ u w_ hk_ hl_ hJ hF K hK
        have h43 : u 43 = .slice (some ⟨s0 + 6, 0, none⟩) 6 6 := AK.facts_get hF 43 (by simp)
        have h44 : u 44 = .int .i64 (i : Int) := AK.facts_get hF 44 (by simp)
        clear hF
        simp only [h43, h44] at hK ⊢
        clear h43 h44
        go_simp
        exact hK.out _ _ (Below.refl _ _) (rfl) trivial
       refine AK.sc (lim := 2) (lo := 0) rfl rfl rfl rfl ?_ ?_
       ·intro k_ u w_ hk_ hl_ hJ hF K hK
        have h45 : u 45 = .pointer (some ⟨s0 + 6, i * 3, none⟩) := AK.facts_get hF 45 (by simp)
        clear hF
        simp only [h45] at hK ⊢
        clear h45
        go_simp
        exact hK.out _ _ (Below.refl _ _) (rfl) trivial
       refine AK.sc (lim := 2) (lo := 0) rfl rfl rfl rfl ?_ ?_
       ·intro k_ u w_ hk_ hl_ hJ hF K hK
        have h46 : u 46 = .pointer (some ⟨s0 + 6, i * 3, none⟩) := AK.facts_get hF 46 (by simp)
        clear hF
        simp only [h46] at hK ⊢
        clear h46
        have hc9 := HR.out _ (HBI.out.trans (hJ.1.mono HBI.out.size)) i hlt
        obtain ⟨r0, r1, r2⟩ := hc9
        rw [HN.out] at r2
        go_simp
        exact hK.out _ _ (Below.refl _ _) (rfl) trivial
       refine AK.sc (lim := 2) (lo := 0) rfl rfl rfl rfl ?_ ?_
       ·intro k_ u w_ hk_ hl_ hJ hF K hK
        clear hF
        go_simp
        exact hK.out _ _ (Below.refl _ _) (rfl) trivial
       refine AK.sc (lim := 2) (lo := 0) rfl rfl rfl rfl ?_ ?_
       ·intro k_ u w_ hk_ hl_ hJ hF K hK
        clear hF
        go_simp
        exact hK.out _ _ (Below.refl _ _) (rfl) trivial
       refine AK.sc (lim := 2) (lo := 0) rfl rfl rfl rfl ?_ ?_
       ·intro k_ u w_ hk_ hl_ hJ hF K hK
        have h48 : u 48 = .slice (some ⟨s0 + 6, 0, none⟩) 6 6 := AK.facts_get hF 48 (by simp)
        have h49 : u 49 = .int .i64 (i : Int) := AK.facts_get hF 49 (by simp)
        clear hF
        simp only [h48, h49] at hK ⊢
        clear h48 h49
        go_simp
        exact hK.out _ _ (Below.refl _ _) (rfl) trivial
       refine AK.sc (lim := 2) (lo := 0) rfl rfl rfl rfl ?_ ?_
       ·intro k_ u w_ hk_ hl_ hJ hF K hK
        have h50 : u 50 = .pointer (some ⟨s0 + 6, i * 3, none⟩) := AK.facts_get hF 50 (by simp)
        clear hF
        simp only [h50] at hK ⊢
        clear h50
        go_simp
        exact hK.out _ _ (Below.refl _ _) (rfl) trivial
       refine AK.sc (lim := 2) (lo := 0) rfl rfl rfl rfl ?_ ?_
       ·intro k_ u w_ hk_ hl_ hJ hF K hK
        have h51 : u 51 = .pointer (some ⟨s0 + 6, i * 3 + 1, none⟩) := AK.facts_get hF 51 (by simp)
        clear hF
        simp only [h51] at hK ⊢
        clear h51
        have hc9 := HR.out _ (HBI.out.trans (hJ.1.mono HBI.out.size)) i hlt
        obtain ⟨r0, r1, r2⟩ := hc9
        rw [HN.out] at r2
        go_simp
        exact hK.out _ _ (Below.refl _ _) (rfl) trivial
       refine AK.sc (lim := 2) (lo := 0) rfl rfl rfl rfl ?_ ?_
       ·intro k_ u w_ hk_ hl_ hJ hF K hK
        have h42 : u 42 = .int .i64 1010 := AK.facts_get hF 42 (by simp)
        have h47 : u 47 = .int .i64 (krow i) := AK.facts_get hF 47 (by simp)
        have h52 : u 52 = .int .i64 (brow i) := AK.facts_get hF 52 (by simp)
        clear hF
        simp only [h42, h47, h52] at hK ⊢
        clear h42 h47 h52
        go_simp
        exact hK.out _ _ (Below.refl _ _) (rfl) trivial
       refine AK.ss rfl rfl ?_ ?_
       ·intro u w_ hJ hA_ hF K hK
        clear hF
        go_simp
        exact hK.out _ _ ⟨hJ.1.trans ((below_alloc_new _).mono hJ.1.size), fun v hv => ⟨w_.heap.size, by cases hv; rfl, hJ.1.size, Wh.new w_ _ [.int .i64 0, .int .i64 0, .int .i64 0, .int .i64 0]⟩⟩ (by simp) trivial
       refine AK.ss rfl rfl ?_ ?_
       ·intro u w_ hJ hA_ hF K hK
        have h53 : u 53 = .agg #[.int .i64 1010, .int .i64 (krow i), .int .i64 (brow i), .int .i64 0] := AK.facts_get hF 53 (by simp)
        clear hF
        simp only [h53] at hK ⊢
        clear h53
        obtain ⟨g5, h5v, hg5, hw5⟩ := hJ.2 _ rfl
        simp only [h5v] at hK ⊢
        refine wp_store_mid 118 _ _ rfl g5 0 #[.int .i64 1010, .int .i64 (krow i), .int .i64 (brow i), .int .i64 0] rfl rfl (hw5.there (show 0 + 4 ≤ 4 from Nat.le_refl _)) (by kernel_rfl) (by kernel_rfl) ?_
        exact hK.out _ _ ⟨hJ.1.trans (below_setCells hg5 _ _ (Below.refl _ _)), fun v hv => ⟨g5, by cases hv; exact h5v, hg5, hw5.put _ rfl⟩⟩ (Nat.le_of_eq (setCells_size _ _ _ _).symm) trivial
       exact AK.StepsOk.nil
      ·intro u W9 hJ9 hF
       clear hF
       have hB9 := hJ9.1
       obtain ⟨g9, h9, hg9, hw9⟩ := hJ9.2 _ rfl
       clear hJ9
       simp only [h9]
       clear h9
       have HB9 := Lib.hid (HBI.out.trans (hB9.mono HBI.out.size))
       have z0 := hw9.at 0 _ rfl
       have z1 := hw9.at 1 _ rfl
       have z2 := hw9.at 2 _ rfl
       have z3 := hw9.at 3 _ rfl
       have z4 := hw9.frozen 3
       have hwf := hw9.set 3 (.int .i64 1000)
       have HWF : Hid (Wh 118 (W9.setCell ⟨g9, 3, none⟩ (.int .i64 1000)) g9 (celA ⟨1010, krow i, brow i, 1000⟩)) := Lib.hid hwf
       have HO9 : Hid (OwnR lyA 118 (W9.setCell ⟨g9, 3, none⟩ (.int .i64 1000)) s1 u2 (scN i k)) := Lib.hid ((HO.out.up hB9).blk (fun g hg => Below.heap_setCell _ _ _ _ (by have := HO.out.lt hg; show g ≠ g9; omega)))
       have HBF : Hid (Below s1 w2 (W9.setCell ⟨g9, 3, none⟩ (.int .i64 1000))) := Lib.hid (Below.setCell (p := ⟨g9, 3, none⟩) (HB9.out.mono (Nat.le_of_eq HS1.out.symm)) (by show s1 ≤ g9; have := HBI.out.size; have := HS1.out; omega) _)
       have HSZ9 : Hid (s1 ≤ (W9.setCell ⟨g9, 3, none⟩ (.int .i64 1000)).heap.size) := Lib.hid (by have := HBF.out.size; have := HS1.out; omega)
       have HRO : Hid (RowAt lyA ((W9.setCell ⟨g9, 3, none⟩ (.int .i64 1000)).alloc (.cells #[.int .i64 1010, .int .i64 (krow i), .int .i64 (brow i), .int .i64 1000] 118)) (some ⟨W9.heap.size, 0, none⟩) [⟨1010, krow i, brow i, 1000⟩]) := Lib.hid (by have h := row_one (R := lyA) (x := ⟨1010, krow i, brow i, 1000⟩) (Wh.new (W9.setCell ⟨g9, 3, none⟩ (.int .i64 1000)) 118 [.int .i64 1010, .int .i64 (krow i), .int .i64 (brow i), .int .i64 1000]); first | exact h | (rw [World.size_setCell] at h; exact h))
       clear hw9 hwf hB9
       go_wp2_with (at_builtin; refine wpList_app_row (R := lyA) rfl (.tmp 68) (.tmp 70) 24 rfl i0 _ 32 Tryz.underlying24 hi hz1 hz2 hz3 (by omega) rfl rfl ((HO9.out).up (below_alloc_new _)) (some ⟨W9.heap.size, 0, none⟩) 1 1 [⟨1010, krow i, brow i, 1000⟩] rfl rfl HRO.out (by have := HLN.out; simp; omega) (Nat.le_trans HSZ9.out (by simp)) ?_; intro v5 w5 ho5 hg5 hn5)
       have HO5 : Hid (OwnR lyA 118 w5 s1 v5 (scN i (k + 1))) := Lib.hid (by rw [scN_k, HAN2.out]; exact ho5.out)
       have HB5 : Hid (Below s1 w2 w5) := Lib.hid ((HBF.out.trans ((below_alloc_new _).mono HSZ9.out)).grown hg5.out (Nat.le_trans HSZ9.out (by simp)) (fun g hg => (HO9.out.lt hg).1))
       clear ho5 hg5 hn5 HO9 HAN2 HWF z0 z1 z2 z3 z4
       go_wp2_with fail
       go_roundg (n - (k + 1))
       case measure => omega
       case rel => exact ⟨k + 1, by go_num, by omega, by omega, HO5, HB5.out⟩
     by_cases hc1100 : c = 1100
     ·subst hc1100
      have hpar : parN 1100 = 1000 := rfl
      have HAN2 : Hid (accN i k = ⟨1100, krow i, brow i, 1000⟩) := Lib.hid (by rw [HAN.out, hpar])
      clear HAN hpar hc1010
      go_wp2_with fail
      refine AK.region_facts (Rp := Below0) (Kp := SizeUp) (spFa s0 i k n 1100) (spJ wi 1100 (krow i) (brow i)) [[], [], [35, 36], [37], [38], [], [39, 40], [41], [], [], [43, 44], [45], [46], [], [], [48, 49], [50], [51], [42, 47, 52], [], [53]] [19, 20] [[], [5], [5]] [2, 2, 2, 2, 2, 2, 2, 2, 2, 2, 2, 2, 2, 2, 2, 2, 2, 2, 2, 2, 2] [0, 0, 0, 0, 0, 0, 0, 0, 0, 0, 0, 0, 0, 0, 0, 0, 0, 0, 0, 0, 0] [] (fun u => by simp only [spFa, AK.temps, List.map_cons, List.map_nil, fillL, List.setIfInBounds_toArray, List.set_cons_zero, List.set_cons_succ]; rfl) (by kernel_rfl) (by kernel_rfl) (fun _ _ h => h) (fun _ _ h => h.size) (spJ.st wi 1100 (krow i) (brow i)) (⟨dc_drew (Below.refl _ _), fun v h => by cases h⟩) ?_ ?_
      ·refine AK.sc (lim := 2) (lo := 0) rfl rfl rfl rfl ?_ ?_
       ·intro k_ u w_ hk_ hl_ hJ hF K hK
        clear hF
        go_simp
        exact hK.out _ _ (Below.refl _ _) (rfl) trivial
       refine AK.sc (lim := 2) (lo := 0) rfl rfl rfl rfl ?_ ?_
       ·intro k_ u w_ hk_ hl_ hJ hF K hK
        clear hF
        go_simp
        exact hK.out _ _ (Below.refl _ _) (rfl) trivial
       refine AK.sc (lim := 2) (lo := 0) rfl rfl rfl rfl ?_ ?_
       ·intro k_ u w_ hk_ hl_ hJ hF K hK
        have h35 : u 35 = .slice (some ⟨s0 + 6, 0, none⟩) 6 6 := AK.facts_get hF 35 (by simp)
        have h36 : u 36 = .int .i64 (i : Int) := AK.facts_get hF 36 (by simp)
        clear hF
        simp only [h35, h36] at hK ⊢
        clear h35 h36
        go_simp
        exact hK.out _ _ (Below.refl _ _) (rfl) trivial
       refine AK.sc (lim := 2) (lo := 0) rfl rfl rfl rfl ?_ ?_
       ·intro k_ u w_ hk_ hl_ hJ hF K hK
        have h37 : u 37 = .pointer (some ⟨s0 + 6, i * 3, none⟩) := AK.facts_get hF 37 (by simp)
        clear hF
        simp only [h37] at hK ⊢
        clear h37
        go_simp
        exact hK.out _ _ (Below.refl _ _) (rfl) trivial
       refine AK.sc (lim := 2) (lo := 0) rfl rfl rfl rfl ?_ ?_
       ·intro k_ u w_ hk_ hl_ hJ hF K hK
        have h38 : u 38 = .pointer (some ⟨s0 + 6, i * 3 + 2, none⟩) := AK.facts_get hF 38 (by simp)
        clear hF
        simp only [h38] at hK ⊢
        clear h38
        have hc9 := HR.out _ (HBI.out.trans (hJ.1.mono HBI.out.size)) i hlt
        obtain ⟨r0, r1, r2⟩ := hc9
        rw [HN.out] at r2
        go_simp
        exact hK.out _ _ (Below.refl _ _) (rfl) trivial
       refine AK.sc (lim := 2) (lo := 0) rfl rfl rfl rfl ?_ ?_
       ·intro k_ u w_ hk_ hl_ hJ hF K hK
        clear hF
        go_simp
        exact hK.out _ _ (Below.refl _ _) (rfl) trivial
       refine AK.sc (lim := 2) (lo := 0) rfl rfl rfl rfl ?_ ?_
       ·intro k_ u w_ hk_ hl_ hJ hF K hK
        have h39 : u 39 = .slice (some ⟨s0 + i, 0, none⟩) n n := AK.facts_get hF 39 (by simp)
        have h40 : u 40 = .int .i64 (k : Int) := AK.facts_get hF 40 (by simp)
        clear hF
        simp only [h39, h40] at hK ⊢
        clear h39 h40
        go_simp
        exact hK.out _ _ (Below.refl _ _) (rfl) trivial
       refine AK.sc (lim := 2) (lo := 0) rfl rfl rfl rfl ?_ ?_
       ·intro k_ u w_ hk_ hl_ hJ hF K hK
        have h41 : u 41 = .pointer (some ⟨s0 + i, k, none⟩) := AK.facts_get hF 41 (by simp)
        clear hF
        simp only [h41] at hK ⊢
        clear h41
        have q0 := HQ.out _ (HBI.out.trans (hJ.1.mono HBI.out.size))
        go_simp
        exact hK.out _ _ (Below.refl _ _) (rfl) trivial
       refine AK.sc (lim := 2) (lo := 0) rfl rfl rfl rfl ?_ ?_
       ·intro k_ u w_ hk_ hl_ hJ hF K hK
        clear hF
        go_simp
        exact hK.out _ _ (Below.refl _ _) (rfl) trivial
       refine AK.sc (lim := 2) (lo := 0) rfl rfl rfl rfl ?_ ?_
       ·intro k_ u w_ hk_ hl_ hJ hF K hK
        clear hF
        go_simp
        exact hK.out _ _ (Below.refl _ _) (rfl) trivial
       refine AK.sc (lim := 2) (lo := 0) rfl rfl rfl rfl ?_ ?_
       ·intro k_ u w_ hk_ hl_ hJ hF K hK
        have h43 : u 43 = .slice (some ⟨s0 + 6, 0, none⟩) 6 6 := AK.facts_get hF 43 (by simp)
        have h44 : u 44 = .int .i64 (i : Int) := AK.facts_get hF 44 (by simp)
        clear hF
        simp only [h43, h44] at hK ⊢
        clear h43 h44
        go_simp
        exact hK.out _ _ (Below.refl _ _) (rfl) trivial
       refine AK.sc (lim := 2) (lo := 0) rfl rfl rfl rfl ?_ ?_
       ·intro k_ u w_ hk_ hl_ hJ hF K hK
        have h45 : u 45 = .pointer (some ⟨s0 + 6, i * 3, none⟩) := AK.facts_get hF 45 (by simp)
        clear hF
        simp only [h45] at hK ⊢
        clear h45
        go_simp
        exact hK.out _ _ (Below.refl _ _) (rfl) trivial
       refine AK.sc (lim := 2) (lo := 0) rfl rfl rfl rfl ?_ ?_
       ·intro k_ u w_ hk_ hl_ hJ hF K hK
        have h46 : u 46 = .pointer (some ⟨s0 + 6, i * 3, none⟩) := AK.facts_get hF 46 (by simp)
        clear hF
        simp only [h46] at hK ⊢
        clear h46
        have hc9 := HR.out _ (HBI.out.trans (hJ.1.mono HBI.out.size)) i hlt
        obtain ⟨r0, r1, r2⟩ := hc9
        rw [HN.out] at r2
        go_simp
        exact hK.out _ _ (Below.refl _ _) (rfl) trivial
       refine AK.sc (lim := 2) (lo := 0) rfl rfl rfl rfl ?_ ?_
       ·intro k_ u w_ hk_ hl_ hJ hF K hK
        clear hF
        go_simp
        exact hK.out _ _ (Below.refl _ _) (rfl) trivial
       refine AK.sc (lim := 2) (lo := 0) rfl rfl rfl rfl ?_ ?_
       ·intro k_ u w_ hk_ hl_ hJ hF K hK
        clear hF
        go_simp
        exact hK.out _ _ (Below.refl _ _) (rfl) trivial
       refine AK.sc (lim := 2) (lo := 0) rfl rfl rfl rfl ?_ ?_
       ·intro k_ u w_ hk_ hl_ hJ hF K hK
        have h48 : u 48 = .slice (some ⟨s0 + 6, 0, none⟩) 6 6 := AK.facts_get hF 48 (by simp)
        have h49 : u 49 = .int .i64 (i : Int) := AK.facts_get hF 49 (by simp)
        clear hF
        simp only [h48, h49] at hK ⊢
        clear h48 h49
        go_simp
        exact hK.out _ _ (Below.refl _ _) (rfl) trivial
       refine AK.sc (lim := 2) (lo := 0) rfl rfl rfl rfl ?_ ?_
       ·intro k_ u w_ hk_ hl_ hJ hF K hK
        have h50 : u 50 = .pointer (some ⟨s0 + 6, i * 3, none⟩) := AK.facts_get hF 50 (by simp)
        clear hF
        simp only [h50] at hK ⊢
        clear h50
        go_simp
        exact hK.out _ _ (Below.refl _ _) (rfl) trivial
       refine AK.sc (lim := 2) (lo := 0) rfl rfl rfl rfl ?_ ?_
       ·intro k_ u w_ hk_ hl_ hJ hF K hK
        have h51 : u 51 = .pointer (some ⟨s0 + 6, i * 3 + 1, none⟩) := AK.facts_get hF 51 (by simp)
        clear hF
        simp only [h51] at hK ⊢
        clear h51
        have hc9 := HR.out _ (HBI.out.trans (hJ.1.mono HBI.out.size)) i hlt
        obtain ⟨r0, r1, r2⟩ := hc9
        rw [HN.out] at r2
        go_simp
        exact hK.out _ _ (Below.refl _ _) (rfl) trivial
       refine AK.sc (lim := 2) (lo := 0) rfl rfl rfl rfl ?_ ?_
       ·intro k_ u w_ hk_ hl_ hJ hF K hK
        have h42 : u 42 = .int .i64 1100 := AK.facts_get hF 42 (by simp)
        have h47 : u 47 = .int .i64 (krow i) := AK.facts_get hF 47 (by simp)
        have h52 : u 52 = .int .i64 (brow i) := AK.facts_get hF 52 (by simp)
        clear hF
        simp only [h42, h47, h52] at hK ⊢
        clear h42 h47 h52
        go_simp
        exact hK.out _ _ (Below.refl _ _) (rfl) trivial
       refine AK.ss rfl rfl ?_ ?_
       ·intro u w_ hJ hA_ hF K hK
        clear hF
        go_simp
        exact hK.out _ _ ⟨hJ.1.trans ((below_alloc_new _).mono hJ.1.size), fun v hv => ⟨w_.heap.size, by cases hv; rfl, hJ.1.size, Wh.new w_ _ [.int .i64 0, .int .i64 0, .int .i64 0, .int .i64 0]⟩⟩ (by simp) trivial
       refine AK.ss rfl rfl ?_ ?_
       ·intro u w_ hJ hA_ hF K hK
        have h53 : u 53 = .agg #[.int .i64 1100, .int .i64 (krow i), .int .i64 (brow i), .int .i64 0] := AK.facts_get hF 53 (by simp)
        clear hF
        simp only [h53] at hK ⊢
        clear h53
        obtain ⟨g5, h5v, hg5, hw5⟩ := hJ.2 _ rfl
        simp only [h5v] at hK ⊢
        refine wp_store_mid 118 _ _ rfl g5 0 #[.int .i64 1100, .int .i64 (krow i), .int .i64 (brow i), .int .i64 0] rfl rfl (hw5.there (show 0 + 4 ≤ 4 from Nat.le_refl _)) (by kernel_rfl) (by kernel_rfl) ?_
        exact hK.out _ _ ⟨hJ.1.trans (below_setCells hg5 _ _ (Below.refl _ _)), fun v hv => ⟨g5, by cases hv; exact h5v, hg5, hw5.put _ rfl⟩⟩ (Nat.le_of_eq (setCells_size _ _ _ _).symm) trivial
       exact AK.StepsOk.nil
      ·intro u W9 hJ9 hF
       clear hF
       have hB9 := hJ9.1
       obtain ⟨g9, h9, hg9, hw9⟩ := hJ9.2 _ rfl
       clear hJ9
       simp only [h9]
       clear h9
       have HB9 := Lib.hid (HBI.out.trans (hB9.mono HBI.out.size))
       have z0 := hw9.at 0 _ rfl
       have z1 := hw9.at 1 _ rfl
       have z2 := hw9.at 2 _ rfl
       have z3 := hw9.at 3 _ rfl
       have z4 := hw9.frozen 3
       have hwf := hw9.set 3 (.int .i64 1000)
       have HWF : Hid (Wh 118 (W9.setCell ⟨g9, 3, none⟩ (.int .i64 1000)) g9 (celA ⟨1100, krow i, brow i, 1000⟩)) := Lib.hid hwf
       have HO9 : Hid (OwnR lyA 118 (W9.setCell ⟨g9, 3, none⟩ (.int .i64 1000)) s1 u2 (scN i k)) := Lib.hid ((HO.out.up hB9).blk (fun g hg => Below.heap_setCell _ _ _ _ (by have := HO.out.lt hg; show g ≠ g9; omega)))
       have HBF : Hid (Below s1 w2 (W9.setCell ⟨g9, 3, none⟩ (.int .i64 1000))) := Lib.hid (Below.setCell (p := ⟨g9, 3, none⟩) (HB9.out.mono (Nat.le_of_eq HS1.out.symm)) (by show s1 ≤ g9; have := HBI.out.size; have := HS1.out; omega) _)
       have HSZ9 : Hid (s1 ≤ (W9.setCell ⟨g9, 3, none⟩ (.int .i64 1000)).heap.size) := Lib.hid (by have := HBF.out.size; have := HS1.out; omega)
       have HRO : Hid (RowAt lyA ((W9.setCell ⟨g9, 3, none⟩ (.int .i64 1000)).alloc (.cells #[.int .i64 1100, .int .i64 (krow i), .int .i64 (brow i), .int .i64 1000] 118)) (some ⟨W9.heap.size, 0, none⟩) [⟨1100, krow i, brow i, 1000⟩]) := Lib.hid (by have h := row_one (R := lyA) (x := ⟨1100, krow i, brow i, 1000⟩) (Wh.new (W9.setCell ⟨g9, 3, none⟩ (.int .i64 1000)) 118 [.int .i64 1100, .int .i64 (krow i), .int .i64 (brow i), .int .i64 1000]); first | exact h | (rw [World.size_setCell] at h; exact h))
       clear hw9 hwf hB9
       go_wp2_with (at_builtin; refine wpList_app_row (R := lyA) rfl (.tmp 68) (.tmp 70) 24 rfl i0 _ 32 Tryz.underlying24 hi hz1 hz2 hz3 (by omega) rfl rfl ((HO9.out).up (below_alloc_new _)) (some ⟨W9.heap.size, 0, none⟩) 1 1 [⟨1100, krow i, brow i, 1000⟩] rfl rfl HRO.out (by have := HLN.out; simp; omega) (Nat.le_trans HSZ9.out (by simp)) ?_; intro v5 w5 ho5 hg5 hn5)
       have HO5 : Hid (OwnR lyA 118 w5 s1 v5 (scN i (k + 1))) := Lib.hid (by rw [scN_k, HAN2.out]; exact ho5.out)
       have HB5 : Hid (Below s1 w2 w5) := Lib.hid ((HBF.out.trans ((below_alloc_new _).mono HSZ9.out)).grown hg5.out (Nat.le_trans HSZ9.out (by simp)) (fun g hg => (HO9.out.lt hg).1))
       clear ho5 hg5 hn5 HO9 HAN2 HWF z0 z1 z2 z3 z4
       go_wp2_with fail
       go_roundg (n - (k + 1))
       case measure => omega
       case rel => exact ⟨k + 1, by go_num, by omega, by omega, HO5, HB5.out⟩
     by_cases hc1200 : c = 1200
     ·subst hc1200
      have hpar : parN 1200 = 1000 := rfl
      have HAN2 : Hid (accN i k = ⟨1200, krow i, brow i, 1000⟩) := Lib.hid (by rw [HAN.out, hpar])
      clear HAN hpar hc1010 hc1100
      go_wp2_with fail
      refine AK.region_facts (Rp := Below0) (Kp := SizeUp) (spFa s0 i k n 1200) (spJ wi 1200 (krow i) (brow i)) [[], [], [35, 36], [37], [38], [], [39, 40], [41], [], [], [43, 44], [45], [46], [], [], [48, 49], [50], [51], [42, 47, 52], [], [53]] [19, 20] [[], [5], [5]] [2, 2, 2, 2, 2, 2, 2, 2, 2, 2, 2, 2, 2, 2, 2, 2, 2, 2, 2, 2, 2] [0, 0, 0, 0, 0, 0, 0, 0, 0, 0, 0, 0, 0, 0, 0, 0, 0, 0, 0, 0, 0] [] (fun u => by simp only [spFa, AK.temps, List.map_cons, List.map_nil, fillL, List.setIfInBounds_toArray, List.set_cons_zero, List.set_cons_succ]; rfl) (by kernel_rfl) (by kernel_rfl) (fun _ _ h => h) (fun _ _ h => h.size) (spJ.st wi 1200 (krow i) (brow i)) (⟨dc_drew (Below.refl _ _), fun v h => by cases h⟩) ?_ ?_
      ·refine AK.sc (lim := 2) (lo := 0) rfl rfl rfl rfl ?_ ?_
       ·intro k_ u w_ hk_ hl_ hJ hF K hK
        clear hF
        go_simp
        exact hK.out _ _ (Below.refl _ _) (rfl) trivial
       refine AK.sc (lim := 2) (lo := 0) rfl rfl rfl rfl ?_ ?_
       ·intro k_ u w_ hk_ hl_ hJ hF K hK
        clear hF
        go_simp
        exact hK.out _ _ (Below.refl _ _) (rfl) trivial
       refine AK.sc (lim := 2) (lo := 0) rfl rfl rfl rfl ?_ ?_
       ·intro k_ u w_ hk_ hl_ hJ hF K hK
        have h35 : u 35 = .slice (some ⟨s0 + 6, 0, none⟩) 6 6 := AK.facts_get hF 35 (by simp)
        have h36 : u 36 = .int .i64 (i : Int) := AK.facts_get hF 36 (by simp)
        clear hF
        simp only [h35, h36] at hK ⊢
        clear h35 h36
        go_simp
        exact hK.out _ _ (Below.refl _ _) (rfl) trivial
       refine AK.sc (lim := 2) (lo := 0) rfl rfl rfl rfl ?_ ?_
       ·intro k_ u w_ hk_ hl_ hJ hF K hK
        have h37 : u 37 = .pointer (some ⟨s0 + 6, i * 3, none⟩) := AK.facts_get hF 37 (by simp)
        clear hF
        simp only [h37] at hK ⊢
        clear h37
        go_simp
        exact hK.out _ _ (Below.refl _ _) (rfl) trivial
       refine AK.sc (lim := 2) (lo := 0) rfl rfl rfl rfl ?_ ?_
       ·intro k_ u w_ hk_ hl_ hJ hF K hK
        have h38 : u 38 = .pointer (some ⟨s0 + 6, i * 3 + 2, none⟩) := AK.facts_get hF 38 (by simp)
        clear hF
        simp only [h38] at hK ⊢
        clear h38
        have hc9 := HR.out _ (HBI.out.trans (hJ.1.mono HBI.out.size)) i hlt
        obtain ⟨r0, r1, r2⟩ := hc9
        rw [HN.out] at r2
        go_simp
        exact hK.out _ _ (Below.refl _ _) (rfl) trivial
       refine AK.sc (lim := 2) (lo := 0) rfl rfl rfl rfl ?_ ?_
       ·intro k_ u w_ hk_ hl_ hJ hF K hK
        clear hF
        go_simp
        exact hK.out _ _ (Below.refl _ _) (rfl) trivial
       refine AK.sc (lim := 2) (lo := 0) rfl rfl rfl rfl ?_ ?_
       ·intro k_ u w_ hk_ hl_ hJ hF K hK
        have h39 : u 39 = .slice (some ⟨s0 + i, 0, none⟩) n n := AK.facts_get hF 39 (by simp)
        have h40 : u 40 = .int .i64 (k : Int) := AK.facts_get hF 40 (by simp)
        clear hF
        simp only [h39, h40] at hK ⊢
        clear h39 h40
        go_simp
        exact hK.out _ _ (Below.refl _ _) (rfl) trivial
       refine AK.sc (lim := 2) (lo := 0) rfl rfl rfl rfl ?_ ?_
       ·intro k_ u w_ hk_ hl_ hJ hF K hK
        have h41 : u 41 = .pointer (some ⟨s0 + i, k, none⟩) := AK.facts_get hF 41 (by simp)
        clear hF
        simp only [h41] at hK ⊢
        clear h41
        have q0 := HQ.out _ (HBI.out.trans (hJ.1.mono HBI.out.size))
        go_simp
        exact hK.out _ _ (Below.refl _ _) (rfl) trivial
       refine AK.sc (lim := 2) (lo := 0) rfl rfl rfl rfl ?_ ?_
       ·intro k_ u w_ hk_ hl_ hJ hF K hK
        clear hF
        go_simp
        exact hK.out _ _ (Below.refl _ _) (rfl) trivial
       refine AK.sc (lim := 2) (lo := 0) rfl rfl rfl rfl ?_ ?_
       ·intro k_ u w_ hk_ hl_ hJ hF K hK
        clear hF
        go_simp
        exact hK.out _ _ (Below.refl _ _) (rfl) trivial
       refine AK.sc (lim := 2) (lo := 0) rfl rfl rfl rfl ?_ ?_
       ·intro k_ u w_ hk_ hl_ hJ hF K hK
        have h43 : u 43 = .slice (some ⟨s0 + 6, 0, none⟩) 6 6 := AK.facts_get hF 43 (by simp)
        have h44 : u 44 = .int .i64 (i : Int) := AK.facts_get hF 44 (by simp)
        clear hF
        simp only [h43, h44] at hK ⊢
        clear h43 h44
        go_simp
        exact hK.out _ _ (Below.refl _ _) (rfl) trivial
       refine AK.sc (lim := 2) (lo := 0) rfl rfl rfl rfl ?_ ?_
       ·intro k_ u w_ hk_ hl_ hJ hF K hK
        have h45 : u 45 = .pointer (some ⟨s0 + 6, i * 3, none⟩) := AK.facts_get hF 45 (by simp)
        clear hF
        simp only [h45] at hK ⊢
        clear h45
        go_simp
        exact hK.out _ _ (Below.refl _ _) (rfl) trivial
       refine AK.sc (lim := 2) (lo := 0) rfl rfl rfl rfl ?_ ?_
       ·intro k_ u w_ hk_ hl_ hJ hF K hK
        have h46 : u 46 = .pointer (some ⟨s0 + 6, i * 3, none⟩) := AK.facts_get hF 46 (by simp)
        clear hF
        simp only [h46] at hK ⊢
        clear h46
        have hc9 := HR.out _ (HBI.out.trans (hJ.1.mono HBI.out.size)) i hlt
        obtain ⟨r0, r1, r2⟩ := hc9
        rw [HN.out] at r2
        go_simp
        exact hK.out _ _ (Below.refl _ _) (rfl) trivial
       refine AK.sc (lim := 2) (lo := 0) rfl rfl rfl rfl ?_ ?_
       ·intro k_ u w_ hk_ hl_ hJ hF K hK
        clear hF
        go_simp
        exact hK.out _ _ (Below.refl _ _) (rfl) trivial
       refine AK.sc (lim := 2) (lo := 0) rfl rfl rfl rfl ?_ ?_
       ·intro k_ u w_ hk_ hl_ hJ hF K hK
        clear hF
        go_simp
        exact hK.out _ _ (Below.refl _ _) (rfl) trivial
       refine AK.sc (lim := 2) (lo := 0) rfl rfl rfl rfl ?_ ?_
       ·intro k_ u w_ hk_ hl_ hJ hF K hK
        have h48 : u 48 = .slice (some ⟨s0 + 6, 0, none⟩) 6 6 := AK.facts_get hF 48 (by simp)
        have h49 : u 49 = .int .i64 (i : Int) := AK.facts_get hF 49 (by simp)
        clear hF
        simp only [h48, h49] at hK ⊢
        clear h48 h49
        go_simp
        exact hK.out _ _ (Below.refl _ _) (rfl) trivial
       refine AK.sc (lim := 2) (lo := 0) rfl rfl rfl rfl ?_ ?_
       ·intro k_ u w_ hk_ hl_ hJ hF K hK
        have h50 : u 50 = .pointer (some ⟨s0 + 6, i * 3, none⟩) := AK.facts_get hF 50 (by simp)
        clear hF
        simp only [h50] at hK ⊢
        clear h50
        go_simp
        exact hK.out _ _ (Below.refl _ _) (rfl) trivial
       refine AK.sc (lim := 2) (lo := 0) rfl rfl rfl rfl ?_ ?_
       ·intro k_ u w_ hk_ hl_ hJ hF K hK
        have h51 : u 51 = .pointer (some ⟨s0 + 6, i * 3 + 1, none⟩) := AK.facts_get hF 51 (by simp)
        clear hF
        simp only [h51] at hK ⊢
        clear h51
        have hc9 := HR.out _ (HBI.out.trans (hJ.1.mono HBI.out.size)) i hlt
        obtain ⟨r0, r1, r2⟩ := hc9
        rw [HN.out] at r2
        go_simp
        exact hK.out _ _ (Below.refl _ _) (rfl) trivial
       refine AK.sc (lim := 2) (lo := 0) rfl rfl rfl rfl ?_ ?_
       ·intro k_ u w_ hk_ hl_ hJ hF K hK
        have h42 : u 42 = .int .i64 1200 := AK.facts_get hF 42 (by simp)
        have h47 : u 47 = .int .i64 (krow i) := AK.facts_get hF 47 (by simp)
        have h52 : u 52 = .int .i64 (brow i) := AK.facts_get hF 52 (by simp)
        clear hF
        simp only [h42, h47, h52] at hK ⊢
        clear h42 h47 h52
        go_simp
        exact hK.out _ _ (Below.refl _ _) (rfl) trivial
       refine AK.ss rfl rfl ?_ ?_
       ·intro u w_ hJ hA_ hF K hK
        clear hF
        go_simp
        exact hK.out _ _ ⟨hJ.1.trans ((below_alloc_new _).mono hJ.1.size), fun v hv => ⟨w_.heap.size, by cases hv; rfl, hJ.1.size, Wh.new w_ _ [.int .i64 0, .int .i64 0, .int .i64 0, .int .i64 0]⟩⟩ (by simp) trivial
       refine AK.ss rfl rfl ?_ ?_
       ·intro u w_ hJ hA_ hF K hK
        have h53 : u 53 = .agg #[.int .i64 1200, .int .i64 (krow i), .int .i64 (brow i), .int .i64 0] := AK.facts_get hF 53 (by simp)
        clear hF
        simp only [h53] at hK ⊢
        clear h53
        obtain ⟨g5, h5v, hg5, hw5⟩ := hJ.2 _ rfl
        simp only [h5v] at hK ⊢
        refine wp_store_mid 118 _ _ rfl g5 0 #[.int .i64 1200, .int .i64 (krow i), .int .i64 (brow i), .int .i64 0] rfl rfl (hw5.there (show 0 + 4 ≤ 4 from Nat.le_refl _)) (by kernel_rfl) (by kernel_rfl) ?_
        exact hK.out _ _ ⟨hJ.1.trans (below_setCells hg5 _ _ (Below.refl _ _)), fun v hv => ⟨g5, by cases hv; exact h5v, hg5, hw5.put _ rfl⟩⟩ (Nat.le_of_eq (setCells_size _ _ _ _).symm) trivial
       exact AK.StepsOk.nil
      ·intro u W9 hJ9 hF
       clear hF
       have hB9 := hJ9.1
       obtain ⟨g9, h9, hg9, hw9⟩ := hJ9.2 _ rfl
       clear hJ9
       simp only [h9]
       clear h9
       have HB9 := Lib.hid (HBI.out.trans (hB9.mono HBI.out.size))
       have z0 := hw9.at 0 _ rfl
       have z1 := hw9.at 1 _ rfl
       have z2 := hw9.at 2 _ rfl
       have z3 := hw9.at 3 _ rfl
       have z4 := hw9.frozen 3
       have hwf := hw9.set 3 (.int .i64 1000)
       have HWF : Hid (Wh 118 (W9.setCell ⟨g9, 3, none⟩ (.int .i64 1000)) g9 (celA ⟨1200, krow i, brow i, 1000⟩)) := Lib.hid hwf
       have HO9 : Hid (OwnR lyA 118 (W9.setCell ⟨g9, 3, none⟩ (.int .i64 1000)) s1 u2 (scN i k)) := Lib.hid ((HO.out.up hB9).blk (fun g hg => Below.heap_setCell _ _ _ _ (by have := HO.out.lt hg; show g ≠ g9; omega)))
       have HBF : Hid (Below s1 w2 (W9.setCell ⟨g9, 3, none⟩ (.int .i64 1000))) := Lib.hid (Below.setCell (p := ⟨g9, 3, none⟩) (HB9.out.mono (Nat.le_of_eq HS1.out.symm)) (by show s1 ≤ g9; have := HBI.out.size; have := HS1.out; omega) _)
       have HSZ9 : Hid (s1 ≤ (W9.setCell ⟨g9, 3, none⟩ (.int .i64 1000)).heap.size) := Lib.hid (by have := HBF.out.size; have := HS1.out; omega)
       have HRO : Hid (RowAt lyA ((W9.setCell ⟨g9, 3, none⟩ (.int .i64 1000)).alloc (.cells #[.int .i64 1200, .int .i64 (krow i), .int .i64 (brow i), .int .i64 1000] 118)) (some ⟨W9.heap.size, 0, none⟩) [⟨1200, krow i, brow i, 1000⟩]) := Lib.hid (by have h := row_one (R := lyA) (x := ⟨1200, krow i, brow i, 1000⟩) (Wh.new (W9.setCell ⟨g9, 3, none⟩ (.int .i64 1000)) 118 [.int .i64 1200, .int .i64 (krow i), .int .i64 (brow i), .int .i64 1000]); first | exact h | (rw [World.size_setCell] at h; exact h))
       clear hw9 hwf hB9
       go_wp2_with (at_builtin; refine wpList_app_row (R := lyA) rfl (.tmp 68) (.tmp 70) 24 rfl i0 _ 32 Tryz.underlying24 hi hz1 hz2 hz3 (by omega) rfl rfl ((HO9.out).up (below_alloc_new _)) (some ⟨W9.heap.size, 0, none⟩) 1 1 [⟨1200, krow i, brow i, 1000⟩] rfl rfl HRO.out (by have := HLN.out; simp; omega) (Nat.le_trans HSZ9.out (by simp)) ?_; intro v5 w5 ho5 hg5 hn5)
       have HO5 : Hid (OwnR lyA 118 w5 s1 v5 (scN i (k + 1))) := Lib.hid (by rw [scN_k, HAN2.out]; exact ho5.out)
       have HB5 : Hid (Below s1 w2 w5) := Lib.hid ((HBF.out.trans ((below_alloc_new _).mono HSZ9.out)).grown hg5.out (Nat.le_trans HSZ9.out (by simp)) (fun g hg => (HO9.out.lt hg).1))
       clear ho5 hg5 hn5 HO9 HAN2 HWF z0 z1 z2 z3 z4
       go_wp2_with fail
       go_roundg (n - (k + 1))
       case measure => omega
       case rel => exact ⟨k + 1, by go_num, by omega, by omega, HO5, HB5.out⟩
     by_cases hc2100 : c = 2100
     ·subst hc2100
      have hpar : parN 2100 = 2000 := rfl
      have HAN2 : Hid (accN i k = ⟨2100, krow i, brow i, 2000⟩) := Lib.hid (by rw [HAN.out, hpar])
      clear HAN hpar hc1010 hc1100 hc1200
      go_wp2_with fail
      refine AK.region_facts (Rp := Below0) (Kp := SizeUp) (spFa s0 i k n 2100) (spJ wi 2100 (krow i) (brow i)) [[], [], [35, 36], [37], [38], [], [39, 40], [41], [], [], [43, 44], [45], [46], [], [], [48, 49], [50], [51], [42, 47, 52], [], [53]] [19, 20] [[], [5], [5]] [2, 2, 2, 2, 2, 2, 2, 2, 2, 2, 2, 2, 2, 2, 2, 2, 2, 2, 2, 2, 2] [0, 0, 0, 0, 0, 0, 0, 0, 0, 0, 0, 0, 0, 0, 0, 0, 0, 0, 0, 0, 0] [] (fun u => by simp only [spFa, AK.temps, List.map_cons, List.map_nil, fillL, List.setIfInBounds_toArray, List.set_cons_zero, List.set_cons_succ]; rfl) (by kernel_rfl) (by kernel_rfl) (fun _ _ h => h) (fun _ _ h => h.size) (spJ.st wi 2100 (krow i) (brow i)) (⟨dc_drew (Below.refl _ _), fun v h => by cases h⟩) ?_ ?_
      ·refine AK.sc (lim := 2) (lo := 0) rfl rfl rfl rfl ?_ ?_
       ·intro k_ u w_ hk_ hl_ hJ hF K hK
        clear hF
        go_simp
        exact hK.out _ _ (Below.refl _ _) (rfl) trivial
       refine AK.sc (lim := 2) (lo := 0) rfl rfl rfl rfl ?_ ?_
       ·intro k_ u w_ hk_ hl_ hJ hF K hK
        clear hF
        go_simp
        exact hK.out _ _ (Below.refl _ _) (rfl) trivial
       refine AK.sc (lim := 2) (lo := 0) rfl rfl rfl rfl ?_ ?_
       ·intro k_ u w_ hk_ hl_ hJ hF K hK
        have h35 : u 35 = .slice (some ⟨s0 + 6, 0, none⟩) 6 6 := AK.facts_get hF 35 (by simp)
        have h36 : u 36 = .int .i64 (i : Int) := AK.facts_get hF 36 (by simp)
        clear hF
        simp only [h35, h36] at hK ⊢
        clear h35 h36
        go_simp
        exact hK.out _ _ (Below.refl _ _) (rfl) trivial
       refine AK.sc (lim := 2) (lo := 0) rfl rfl rfl rfl ?_ ?_
       ·intro k_ u w_ hk_ hl_ hJ hF K hK
        have h37 : u 37 = .pointer (some ⟨s0 + 6, i * 3, none⟩) := AK.facts_get hF 37 (by simp)
        clear hF
        simp only [h37] at hK ⊢
        clear h37
        go_simp
        exact hK.out _ _ (Below.refl _ _) (rfl) trivial
       refine AK.sc (lim := 2) (lo := 0) rfl rfl rfl rfl ?_ ?_
       ·intro k_ u w_ hk_ hl_ hJ hF K hK
        have h38 : u 38 = .pointer (some ⟨s0 + 6, i * 3 + 2, none⟩) := AK.facts_get hF 38 (by simp)
        clear hF
        simp only [h38] at hK ⊢
        clear h38
        have hc9 := HR.out _ (HBI.out.trans (hJ.1.mono HBI.out.size)) i hlt
        obtain ⟨r0, r1, r2⟩ := hc9
        rw [HN.out] at r2
        go_simp
        exact hK.out _ _ (Below.refl _ _) (rfl) trivial
       refine AK.sc (lim := 2) (lo := 0) rfl rfl rfl rfl ?_ ?_
       ·intro k_ u w_ hk_ hl_ hJ hF K hK
        clear hF
        go_simp
        exact hK.out _ _ (Below.refl _ _) (rfl) trivial
       refine AK.sc (lim := 2) (lo := 0) rfl rfl rfl rfl ?_ ?_
       ·intro k_ u w_ hk_ hl_ hJ hF K hK
        have h39 : u 39 = .slice (some ⟨s0 + i, 0, none⟩) n n := AK.facts_get hF 39 (by simp)
        have h40 : u 40 = .int .i64 (k : Int) := AK.facts_get hF 40 (by simp)
        clear hF
        simp only [h39, h40] at hK ⊢
        clear h39 h40
        go_simp
        exact hK.out _ _ (Below.refl _ _) (rfl) trivial
       refine AK.sc (lim := 2) (lo := 0) rfl rfl rfl rfl ?_ ?_
       ·intro k_ u w_ hk_ hl_ hJ hF K hK
        have h41 : u 41 = .pointer (some ⟨s0 + i, k, none⟩) := AK.facts_get hF 41 (by simp)
        clear hF
        simp only [h41] at hK ⊢
        clear h41
        have q0 := HQ.out _ (HBI.out.trans (hJ.1.mono HBI.out.size))
        go_simp
        exact hK.out _ _ (Below.refl _ _) (rfl) trivial
       refine AK.sc (lim := 2) (lo := 0) rfl rfl rfl rfl ?_ ?_
       ·intro k_ u w_ hk_ hl_ hJ hF K hK
        clear hF
        go_simp
        exact hK.out _ _ (Below.refl _ _) (rfl) trivial
       refine AK.sc (lim := 2) (lo := 0) rfl rfl rfl rfl ?_ ?_
       ·intro k_ u w_ hk_ hl_ hJ hF K hK
        clear hF
        go_simp
        exact hK.out _ _ (Below.refl _ _) (rfl) trivial
       refine AK.sc (lim := 2) (lo := 0) rfl rfl rfl rfl ?_ ?_
       ·intro k_ u w_ hk_ hl_ hJ hF K hK
        have h43 : u 43 = .slice (some ⟨s0 + 6, 0, none⟩) 6 6 := AK.facts_get hF 43 (by simp)
        have h44 : u 44 = .int .i64 (i : Int) := AK.facts_get hF 44 (by simp)
        clear hF
        simp only [h43, h44] at hK ⊢
        clear h43 h44
        go_simp
        exact hK.out _ _ (Below.refl _ _) (rfl) trivial
       refine AK.sc (lim := 2) (lo := 0) rfl rfl rfl rfl ?_ ?_
       ·intro k_ u w_ hk_ hl_ hJ hF K hK
        have h45 : u 45 = .pointer (some ⟨s0 + 6, i * 3, none⟩) := AK.facts_get hF 45 (by simp)
        clear hF
        simp only [h45] at hK ⊢
        clear h45
        go_simp
        exact hK.out _ _ (Below.refl _ _) (rfl) trivial
       refine AK.sc (lim := 2) (lo := 0) rfl rfl rfl rfl ?_ ?_
       ·intro k_ u w_ hk_ hl_ hJ hF K hK
        have h46 : u 46 = .pointer (some ⟨s0 + 6, i * 3, none⟩) := AK.facts_get hF 46 (by simp)
        clear hF
        simp only [h46] at hK ⊢
        clear h46
        have hc9 := HR.out _ (HBI.out.trans (hJ.1.mono HBI.out.size)) i hlt
        obtain ⟨r0, r1, r2⟩ := hc9
        rw [HN.out] at r2
        go_simp
        exact hK.out _ _ (Below.refl _ _) (rfl) trivial
       refine AK.sc (lim := 2) (lo := 0) rfl rfl rfl rfl ?_ ?_
       ·intro k_ u w_ hk_ hl_ hJ hF K hK
        clear hF
        go_simp
        exact hK.out _ _ (Below.refl _ _) (rfl) trivial
       refine AK.sc (lim := 2) (lo := 0) rfl rfl rfl rfl ?_ ?_
       ·intro k_ u w_ hk_ hl_ hJ hF K hK
        clear hF
        go_simp
        exact hK.out _ _ (Below.refl _ _) (rfl) trivial
       refine AK.sc (lim := 2) (lo := 0) rfl rfl rfl rfl ?_ ?_
       ·intro k_ u w_ hk_ hl_ hJ hF K hK
        have h48 : u 48 = .slice (some ⟨s0 + 6, 0, none⟩) 6 6 := AK.facts_get hF 48 (by simp)
        have h49 : u 49 = .int .i64 (i : Int) := AK.facts_get hF 49 (by simp)
        clear hF
        simp only [h48, h49] at hK ⊢
        clear h48 h49
        go_simp
        exact hK.out _ _ (Below.refl _ _) (rfl) trivial
       refine AK.sc (lim := 2) (lo := 0) rfl rfl rfl rfl ?_ ?_
       ·intro k_ u w_ hk_ hl_ hJ hF K hK
        have h50 : u 50 = .pointer (some ⟨s0 + 6, i * 3, none⟩) := AK.facts_get hF 50 (by simp)
        clear hF
        simp only [h50] at hK ⊢
        clear h50
        go_simp
        exact hK.out _ _ (Below.refl _ _) (rfl) trivial
       refine AK.sc (lim := 2) (lo := 0) rfl rfl rfl rfl ?_ ?_
       ·intro k_ u w_ hk_ hl_ hJ hF K hK
        have h51 : u 51 = .pointer (some ⟨s0 + 6, i * 3 + 1, none⟩) := AK.facts_get hF 51 (by simp)
        clear hF
        simp only [h51] at hK ⊢
        clear h51
        have hc9 := HR.out _ (HBI.out.trans (hJ.1.mono HBI.out.size)) i hlt
        obtain ⟨r0, r1, r2⟩ := hc9
        rw [HN.out] at r2
        go_simp
        exact hK.out _ _ (Below.refl _ _) (rfl) trivial
       refine AK.sc (lim := 2) (lo := 0) rfl rfl rfl rfl ?_ ?_
       ·intro k_ u w_ hk_ hl_ hJ hF K hK
        have h42 : u 42 = .int .i64 2100 := AK.facts_get hF 42 (by simp)
        have h47 : u 47 = .int .i64 (krow i) := AK.facts_get hF 47 (by simp)
        have h52 : u 52 = .int .i64 (brow i) := AK.facts_get hF 52 (by simp)
        clear hF
        simp only [h42, h47, h52] at hK ⊢
        clear h42 h47 h52
        go_simp
        exact hK.out _ _ (Below.refl _ _) (rfl) trivial
       refine AK.ss rfl rfl ?_ ?_
       ·intro u w_ hJ hA_ hF K hK
        clear hF
        go_simp
        exact hK.out _ _ ⟨hJ.1.trans ((below_alloc_new _).mono hJ.1.size), fun v hv => ⟨w_.heap.size, by cases hv; rfl, hJ.1.size, Wh.new w_ _ [.int .i64 0, .int .i64 0, .int .i64 0, .int .i64 0]⟩⟩ (by simp) trivial
       refine AK.ss rfl rfl ?_ ?_
       ·intro u w_ hJ hA_ hF K hK
        have h53 : u 53 = .agg #[.int .i64 2100, .int .i64 (krow i), .int .i64 (brow i), .int .i64 0] := AK.facts_get hF 53 (by simp)
        clear hF
        simp only [h53] at hK ⊢
        clear h53
        obtain ⟨g5, h5v, hg5, hw5⟩ := hJ.2 _ rfl
        simp only [h5v] at hK ⊢
        refine wp_store_mid 118 _ _ rfl g5 0 #[.int .i64 2100, .int .i64 (krow i), .int .i64 (brow i), .int .i64 0] rfl rfl (hw5.there (show 0 + 4 ≤ 4 from Nat.le_refl _)) (by kernel_rfl) (by kernel_rfl) ?_
        exact hK.out _ _ ⟨hJ.1.trans (below_setCells hg5 _ _ (Below.refl _ _)), fun v hv => ⟨g5, by cases hv; exact h5v, hg5, hw5.put _ rfl⟩⟩ (Nat.le_of_eq (setCells_size _ _ _ _).symm) trivial
       exact AK.StepsOk.nil
      ·intro u W9 hJ9 hF
       clear hF
       have hB9 := hJ9.1
       obtain ⟨g9, h9, hg9, hw9⟩ := hJ9.2 _ rfl
       clear hJ9
       simp only [h9]
       clear h9
       have HB9 := Lib.hid (HBI.out.trans (hB9.mono HBI.out.size))
       have z0 := hw9.at 0 _ rfl
       have z1 := hw9.at 1 _ rfl
       have z2 := hw9.at 2 _ rfl
       have z3 := hw9.at 3 _ rfl
       have z4 := hw9.frozen 3
       have hwf := hw9.set 3 (.int .i64 2000)
       have HWF : Hid (Wh 118 (W9.setCell ⟨g9, 3, none⟩ (.int .i64 2000)) g9 (celA ⟨2100, krow i, brow i, 2000⟩)) := Lib.hid hwf
       have HO9 : Hid (OwnR lyA 118 (W9.setCell ⟨g9, 3, none⟩ (.int .i64 2000)) s1 u2 (scN i k)) := Lib.hid ((HO.out.up hB9).blk (fun g hg => Below.heap_setCell _ _ _ _ (by have := HO.out.lt hg; show g ≠ g9; omega)))
       have HBF : Hid (Below s1 w2 (W9.setCell ⟨g9, 3, none⟩ (.int .i64 2000))) := Lib.hid (Below.setCell (p := ⟨g9, 3, none⟩) (HB9.out.mono (Nat.le_of_eq HS1.out.symm)) (by show s1 ≤ g9; have := HBI.out.size; have := HS1.out; omega) _)
       have HSZ9 : Hid (s1 ≤ (W9.setCell ⟨g9, 3, none⟩ (.int .i64 2000)).heap.size) := Lib.hid (by have := HBF.out.size; have := HS1.out; omega)
       have HRO : Hid (RowAt lyA ((W9.setCell ⟨g9, 3, none⟩ (.int .i64 2000)).alloc (.cells #[.int .i64 2100, .int .i64 (krow i), .int .i64 (brow i), .int .i64 2000] 118)) (some ⟨W9.heap.size, 0, none⟩) [⟨2100, krow i, brow i, 2000⟩]) := Lib.hid (by have h := row_one (R := lyA) (x := ⟨2100, krow i, brow i, 2000⟩) (Wh.new (W9.setCell ⟨g9, 3, none⟩ (.int .i64 2000)) 118 [.int .i64 2100, .int .i64 (krow i), .int .i64 (brow i), .int .i64 2000]); first | exact h | (rw [World.size_setCell] at h; exact h))
       clear hw9 hwf hB9
       go_wp2_with (at_builtin; refine wpList_app_row (R := lyA) rfl (.tmp 68) (.tmp 70) 24 rfl i0 _ 32 Tryz.underlying24 hi hz1 hz2 hz3 (by omega) rfl rfl ((HO9.out).up (below_alloc_new _)) (some ⟨W9.heap.size, 0, none⟩) 1 1 [⟨2100, krow i, brow i, 2000⟩] rfl rfl HRO.out (by have := HLN.out; simp; omega) (Nat.le_trans HSZ9.out (by simp)) ?_; intro v5 w5 ho5 hg5 hn5)
       have HO5 : Hid (OwnR lyA 118 w5 s1 v5 (scN i (k + 1))) := Lib.hid (by rw [scN_k, HAN2.out]; exact ho5.out)
       have HB5 : Hid (Below s1 w2 w5) := Lib.hid ((HBF.out.trans ((below_alloc_new _).mono HSZ9.out)).grown hg5.out (Nat.le_trans HSZ9.out (by simp)) (fun g hg => (HO9.out.lt hg).1))
       clear ho5 hg5 hn5 HO9 HAN2 HWF z0 z1 z2 z3 z4
       go_wp2_with fail
       go_roundg (n - (k + 1))
       case measure => omega
       case rel => exact ⟨k + 1, by go_num, by omega, by omega, HO5, HB5.out⟩
     by_cases hc4100 : c = 4100
     ·subst hc4100
      have hpar : parN 4100 = 4000 := rfl
      have HAN2 : Hid (accN i k = ⟨4100, krow i, brow i, 4000⟩) := Lib.hid (by rw [HAN.out, hpar])
      clear HAN hpar hc1010 hc1100 hc1200 hc2100
      go_wp2_with fail
      refine AK.region_facts (Rp := Below0) (Kp := SizeUp) (spFa s0 i k n 4100) (spJ wi 4100 (krow i) (brow i)) [[], [], [35, 36], [37], [38], [], [39, 40], [41], [], [], [43, 44], [45], [46], [], [], [48, 49], [50], [51], [42, 47, 52], [], [53]] [19, 20] [[], [5], [5]] [2, 2, 2, 2, 2, 2, 2, 2, 2, 2, 2, 2, 2, 2, 2, 2, 2, 2, 2, 2, 2] [0, 0, 0, 0, 0, 0, 0, 0, 0, 0, 0, 0, 0, 0, 0, 0, 0, 0, 0, 0, 0] [] (fun u => by simp only [spFa, AK.temps, List.map_cons, List.map_nil, fillL, List.setIfInBounds_toArray, List.set_cons_zero, List.set_cons_succ]; rfl) (by kernel_rfl) (by kernel_rfl) (fun _ _ h => h) (fun _ _ h => h.size) (spJ.st wi 4100 (krow i) (brow i)) (⟨dc_drew (Below.refl _ _), fun v h => by cases h⟩) ?_ ?_
      ·refine AK.sc (lim := 2) (lo := 0) rfl rfl rfl rfl ?_ ?_
       ·intro k_ u w_ hk_ hl_ hJ hF K hK
        clear hF
        go_simp
        exact hK.out _ _ (Below.refl _ _) (rfl) trivial
       refine AK.sc (lim := 2) (lo := 0) rfl rfl rfl rfl ?_ ?_
       ·intro k_ u w_ hk_ hl_ hJ hF K hK
        clear hF
        go_simp
        exact hK.out _ _ (Below.refl _ _) (rfl) trivial
       refine AK.sc (lim := 2) (lo := 0) rfl rfl rfl rfl ?_ ?_
       ·intro k_ u w_ hk_ hl_ hJ hF K hK
        have h35 : u 35 = .slice (some ⟨s0 + 6, 0, none⟩) 6 6 := AK.facts_get hF 35 (by simp)
        have h36 : u 36 = .int .i64 (i : Int) := AK.facts_get hF 36 (by simp)
        clear hF
        simp only [h35, h36] at hK ⊢
        clear h35 h36
        go_simp
        exact hK.out _ _ (Below.refl _ _) (rfl) trivial
       refine AK.sc (lim := 2) (lo := 0) rfl rfl rfl rfl ?_ ?_
       ·intro k_ u w_ hk_ hl_ hJ hF K hK
        have h37 : u 37 = .pointer (some ⟨s0 + 6, i * 3, none⟩) := AK.facts_get hF 37 (by simp)
        clear hF
        simp only [h37] at hK ⊢
        clear h37
        go_simp
        exact hK.out _ _ (Below.refl _ _) (rfl) trivial
       refine AK.sc (lim := 2) (lo := 0) rfl rfl rfl rfl ?_ ?_
       ·intro k_ u w_ hk_ hl_ hJ hF K hK
        have h38 : u 38 = .pointer (some ⟨s0 + 6, i * 3 + 2, none⟩) := AK.facts_get hF 38 (by simp)
        clear hF
        simp only [h38] at hK ⊢
        clear h38
        have hc9 := HR.out _ (HBI.out.trans (hJ.1.mono HBI.out.size)) i hlt
        obtain ⟨r0, r1, r2⟩ := hc9
        rw [HN.out] at r2
        go_simp
        exact hK.out _ _ (Below.refl _ _) (rfl) trivial
       refine AK.sc (lim := 2) (lo := 0) rfl rfl rfl rfl ?_ ?_
       ·intro k_ u w_ hk_ hl_ hJ hF K hK
        clear hF
        go_simp
        exact hK.out _ _ (Below.refl _ _) (rfl) trivial
       refine AK.sc (lim := 2) (lo := 0) rfl rfl rfl rfl ?_ ?_
       ·intro k_ u w_ hk_ hl_ hJ hF K hK
        have h39 : u 39 = .slice (some ⟨s0 + i, 0, none⟩) n n := AK.facts_get hF 39 (by simp)
        have h40 : u 40 = .int .i64 (k : Int) := AK.facts_get hF 40 (by simp)
        clear hF
        simp only [h39, h40] at hK ⊢
        clear h39 h40
        go_simp
        exact hK.out _ _ (Below.refl _ _) (rfl) trivial
       refine AK.sc (lim := 2) (lo := 0) rfl rfl rfl rfl ?_ ?_
       ·intro k_ u w_ hk_ hl_ hJ hF K hK
        have h41 : u 41 = .pointer (some ⟨s0 + i, k, none⟩) := AK.facts_get hF 41 (by simp)
        clear hF
        simp only [h41] at hK ⊢
        clear h41
        have q0 := HQ.out _ (HBI.out.trans (hJ.1.mono HBI.out.size))
        go_simp
        exact hK.out _ _ (Below.refl _ _) (rfl) trivial
       refine AK.sc (lim := 2) (lo := 0) rfl rfl rfl rfl ?_ ?_
       ·intro k_ u w_ hk_ hl_ hJ hF K hK
        clear hF
        go_simp
        exact hK.out _ _ (Below.refl _ _) (rfl) trivial
       refine AK.sc (lim := 2) (lo := 0) rfl rfl rfl rfl ?_ ?_
       ·intro k_ u w_ hk_ hl_ hJ hF K hK
        clear hF
        go_simp
        exact hK.out _ _ (Below.refl _ _) (rfl) trivial
       refine AK.sc (lim := 2) (lo := 0) rfl rfl rfl rfl ?_ ?_
       ·intro k_ u w_ hk_ hl_ hJ hF K hK
        have h43 : u 43 = .slice (some ⟨s0 + 6, 0, none⟩) 6 6 := AK.facts_get hF 43 (by simp)
        have h44 : u 44 = .int .i64 (i : Int) := AK.facts_get hF 44 (by simp)
        clear hF
        simp only [h43, h44] at hK ⊢
        clear h43 h44
        go_simp
        exact hK.out _ _ (Below.refl _ _) (rfl) trivial
       refine AK.sc (lim := 2) (lo := 0) rfl rfl rfl rfl ?_ ?_
       ·intro k_ u w_ hk_ hl_ hJ hF K hK
        have h45 : u 45 = .pointer (some ⟨s0 + 6, i * 3, none⟩) := AK.facts_get hF 45 (by simp)
        clear hF
        simp only [h45] at hK ⊢
        clear h45
        go_simp
        exact hK.out _ _ (Below.refl _ _) (rfl) trivial
       refine AK.sc (lim := 2) (lo := 0) rfl rfl rfl rfl ?_ ?_
       ·intro k_ u w_ hk_ hl_ hJ hF K hK
        have h46 : u 46 = .pointer (some ⟨s0 + 6, i * 3, none⟩) := AK.facts_get hF 46 (by simp)
        clear hF
        simp only [h46] at hK ⊢
        clear h46
        have hc9 := HR.out _ (HBI.out.trans (hJ.1.mono HBI.out.size)) i hlt
        obtain ⟨r0, r1, r2⟩ := hc9
        rw [HN.out] at r2
        go_simp
        exact hK.out _ _ (Below.refl _ _) (rfl) trivial
       refine AK.sc (lim := 2) (lo := 0) rfl rfl rfl rfl ?_ ?_
       ·intro k_ u w_ hk_ hl_ hJ hF K hK
        clear hF
        go_simp
        exact hK.out _ _ (Below.refl _ _) (rfl) trivial
       refine AK.sc (lim := 2) (lo := 0) rfl rfl rfl rfl ?_ ?_
       ·intro k_ u w_ hk_ hl_ hJ hF K hK
        clear hF
        go_simp
        exact hK.out _ _ (Below.refl _ _) (rfl) trivial
       refine AK.sc (lim := 2) (lo := 0) rfl rfl rfl rfl ?_ ?_
       ·intro k_ u w_ hk_ hl_ hJ hF K hK
        have h48 : u 48 = .slice (some ⟨s0 + 6, 0, none⟩) 6 6 := AK.facts_get hF 48 (by simp)
        have h49 : u 49 = .int .i64 (i : Int) := AK.facts_get hF 49 (by simp)
        clear hF
        simp only [h48, h49] at hK ⊢
        clear h48 h49
        go_simp
        exact hK.out _ _ (Below.refl _ _) (rfl) trivial
       refine AK.sc (lim := 2) (lo := 0) rfl rfl rfl rfl ?_ ?_
       ·intro k_ u w_ hk_ hl_ hJ hF K hK
        have h50 : u 50 = .pointer (some ⟨s0 + 6, i * 3, none⟩) := AK.facts_get hF 50 (by simp)
        clear hF
        simp only [h50] at hK ⊢
        clear h50
        go_simp
        exact hK.out _ _ (Below.refl _ _) (rfl) trivial
       refine AK.sc (lim := 2) (lo := 0) rfl rfl rfl rfl ?_ ?_
       ·intro k_ u w_ hk_ hl_ hJ hF K hK
        have h51 : u 51 = .pointer (some ⟨s0 + 6, i * 3 + 1, none⟩) := AK.facts_get hF 51 (by simp)
        clear hF
        simp only [h51] at hK ⊢
        clear h51
        have hc9 := HR.out _ (HBI.out.trans (hJ.1.mono HBI.out.size)) i hlt
        obtain ⟨r0, r1, r2⟩ := hc9
        rw [HN.out] at r2
        go_simp
        exact hK.out _ _ (Below.refl _ _) (rfl) trivial
       refine AK.sc (lim := 2) (lo := 0) rfl rfl rfl rfl ?_ ?_
       ·intro k_ u w_ hk_ hl_ hJ hF K hK
        have h42 : u 42 = .int .i64 4100 := AK.facts_get hF 42 (by simp)
        have h47 : u 47 = .int .i64 (krow i) := AK.facts_get hF 47 (by simp)
        have h52 : u 52 = .int .i64 (brow i) := AK.facts_get hF 52 (by simp)
        clear hF
        simp only [h42, h47, h52] at hK ⊢
        clear h42 h47 h52
        go_simp
        exact hK.out _ _ (Below.refl _ _) (rfl) trivial
       refine AK.ss rfl rfl ?_ ?_
       ·intro u w_ hJ hA_ hF K hK
        clear hF
        go_simp
        exact hK.out _ _ ⟨hJ.1.trans ((below_alloc_new _).mono hJ.1.size), fun v hv => ⟨w_.heap.size, by cases hv; rfl, hJ.1.size, Wh.new w_ _ [.int .i64 0, .int .i64 0, .int .i64 0, .int .i64 0]⟩⟩ (by simp) trivial
       refine AK.ss rfl rfl ?_ ?_
       ·intro u w_ hJ hA_ hF K hK
        have h53 : u 53 = .agg #[.int .i64 4100, .int .i64 (krow i), .int .i64 (brow i), .int .i64 0] := AK.facts_get hF 53 (by simp)
        clear hF
        simp only [h53] at hK ⊢
        clear h53
        obtain ⟨g5, h5v, hg5, hw5⟩ := hJ.2 _ rfl
        simp only [h5v] at hK ⊢
        refine wp_store_mid 118 _ _ rfl g5 0 #[.int .i64 4100, .int .i64 (krow i), .int .i64 (brow i), .int .i64 0] rfl rfl (hw5.there (show 0 + 4 ≤ 4 from Nat.le_refl _)) (by kernel_rfl) (by kernel_rfl) ?_
        exact hK.out _ _ ⟨hJ.1.trans (below_setCells hg5 _ _ (Below.refl _ _)), fun v hv => ⟨g5, by cases hv; exact h5v, hg5, hw5.put _ rfl⟩⟩ (Nat.le_of_eq (setCells_size _ _ _ _).symm) trivial
       exact AK.StepsOk.nil
      ·intro u W9 hJ9 hF
       clear hF
       have hB9 := hJ9.1
       obtain ⟨g9, h9, hg9, hw9⟩ := hJ9.2 _ rfl
       clear hJ9
       simp only [h9]
       clear h9
       have HB9 := Lib.hid (HBI.out.trans (hB9.mono HBI.out.size))
       have z0 := hw9.at 0 _ rfl
       have z1 := hw9.at 1 _ rfl
       have z2 := hw9.at 2 _ rfl
       have z3 := hw9.at 3 _ rfl
       have z4 := hw9.frozen 3
       have hwf := hw9.set 3 (.int .i64 4000)
       have HWF : Hid (Wh 118 (W9.setCell ⟨g9, 3, none⟩ (.int .i64 4000)) g9 (celA ⟨4100, krow i, brow i, 4000⟩)) := Lib.hid hwf
       have HO9 : Hid (OwnR lyA 118 (W9.setCell ⟨g9, 3, none⟩ (.int .i64 4000)) s1 u2 (scN i k)) := Lib.hid ((HO.out.up hB9).blk (fun g hg => Below.heap_setCell _ _ _ _ (by have := HO.out.lt hg; show g ≠ g9; omega)))
       have HBF : Hid (Below s1 w2 (W9.setCell ⟨g9, 3, none⟩ (.int .i64 4000))) := Lib.hid (Below.setCell (p := ⟨g9, 3, none⟩) (HB9.out.mono (Nat.le_of_eq HS1.out.symm)) (by show s1 ≤ g9; have := HBI.out.size; have := HS1.out; omega) _)
       have HSZ9 : Hid (s1 ≤ (W9.setCell ⟨g9, 3, none⟩ (.int .i64 4000)).heap.size) := Lib.hid (by have := HBF.out.size; have := HS1.out; omega)
       have HRO : Hid (RowAt lyA ((W9.setCell ⟨g9, 3, none⟩ (.int .i64 4000)).alloc (.cells #[.int .i64 4100, .int .i64 (krow i), .int .i64 (brow i), .int .i64 4000] 118)) (some ⟨W9.heap.size, 0, none⟩) [⟨4100, krow i, brow i, 4000⟩]) := Lib.hid (by have h := row_one (R := lyA) (x := ⟨4100, krow i, brow i, 4000⟩) (Wh.new (W9.setCell ⟨g9, 3, none⟩ (.int .i64 4000)) 118 [.int .i64 4100, .int .i64 (krow i), .int .i64 (brow i), .int .i64 4000]); first | exact h | (rw [World.size_setCell] at h; exact h))
       clear hw9 hwf hB9
       go_wp2_with (at_builtin; refine wpList_app_row (R := lyA) rfl (.tmp 68) (.tmp 70) 24 rfl i0 _ 32 Tryz.underlying24 hi hz1 hz2 hz3 (by omega) rfl rfl ((HO9.out).up (below_alloc_new _)) (some ⟨W9.heap.size, 0, none⟩) 1 1 [⟨4100, krow i, brow i, 4000⟩] rfl rfl HRO.out (by have := HLN.out; simp; omega) (Nat.le_trans HSZ9.out (by simp)) ?_; intro v5 w5 ho5 hg5 hn5)
       have HO5 : Hid (OwnR lyA 118 w5 s1 v5 (scN i (k + 1))) := Lib.hid (by rw [scN_k, HAN2.out]; exact ho5.out)
       have HB5 : Hid (Below s1 w2 w5) := Lib.hid ((HBF.out.trans ((below_alloc_new _).mono HSZ9.out)).grown hg5.out (Nat.le_trans HSZ9.out (by simp)) (fun g hg => (HO9.out.lt hg).1))
       clear ho5 hg5 hn5 HO9 HAN2 HWF z0 z1 z2 z3 z4
       go_wp2_with fail
       go_roundg (n - (k + 1))
       case measure => omega
       case rel => exact ⟨k + 1, by go_num, by omega, by omega, HO5, HB5.out⟩
     have e1010 : (c == 1010) = false := by simp [hc1010]
     have e1100 : (c == 1100) = false := by simp [hc1100]
     have e1200 : (c == 1200) = false := by simp [hc1200]
     have e2100 : (c == 2100) = false := by simp [hc2100]
     have e4100 : (c == 4100) = false := by simp [hc4100]
     have hpar : parN c = 0 := by unfold parN; rw [if_neg (by omega), if_neg (by omega)]
     have HAN2 : Hid (accN i k = ⟨c, krow i, brow i, 0⟩) := Lib.hid (by rw [HAN.out, hpar])
     clear HAN hpar hc1010 hc1100 hc1200 hc2100 hc4100
     go_wp2_with fail
     refine AK.region_facts (Rp := Below0) (Kp := SizeUp) (spFa s0 i k n c) (spJ wi c (krow i) (brow i)) [[], [], [35, 36], [37], [38], [], [39, 40], [41], [], [], [43, 44], [45], [46], [], [], [48, 49], [50], [51], [42, 47, 52], [], [53]] [19, 20] [[], [5], [5]] [2, 2, 2, 2, 2, 2, 2, 2, 2, 2, 2, 2, 2, 2, 2, 2, 2, 2, 2, 2, 2] [0, 0, 0, 0, 0, 0, 0, 0, 0, 0, 0, 0, 0, 0, 0, 0, 0, 0, 0, 0, 0] [] (fun u => by simp only [spFa, AK.temps, List.map_cons, List.map_nil, fillL, List.setIfInBounds_toArray, List.set_cons_zero, List.set_cons_succ]; rfl) (by kernel_rfl) (by kernel_rfl) (fun _ _ h => h) (fun _ _ h => h.size) (spJ.st wi c (krow i) (brow i)) (⟨dc_drew (Below.refl _ _), fun v h => by cases h⟩) ?_ ?_
     ·refine AK.sc (lim := 2) (lo := 0) rfl rfl rfl rfl ?_ ?_
      ·intro k_ u w_ hk_ hl_ hJ hF K hK
       clear hF
       go_simp
       exact hK.out _ _ (Below.refl _ _) (rfl) trivial
      refine AK.sc (lim := 2) (lo := 0) rfl rfl rfl rfl ?_ ?_
      ·intro k_ u w_ hk_ hl_ hJ hF K hK
       clear hF
       go_simp
       exact hK.out _ _ (Below.refl _ _) (rfl) trivial
      refine AK.sc (lim := 2) (lo := 0) rfl rfl rfl rfl ?_ ?_
      ·intro k_ u w_ hk_ hl_ hJ hF K hK
       have h35 : u 35 = .slice (some ⟨s0 + 6, 0, none⟩) 6 6 := AK.facts_get hF 35 (by simp)
       have h36 : u 36 = .int .i64 (i : Int) := AK.facts_get hF 36 (by simp)
       clear hF
       simp only [h35, h36] at hK ⊢
       clear h35 h36
       go_simp
       exact hK.out _ _ (Below.refl _ _) (rfl) trivial
      refine AK.sc (lim := 2) (lo := 0) rfl rfl rfl rfl ?_ ?_
      ·intro k_ u w_ hk_ hl_ hJ hF K hK
       have h37 : u 37 = .pointer (some ⟨s0 + 6, i * 3, none⟩) := AK.facts_get hF 37 (by simp)
       clear hF
       simp only [h37] at hK ⊢
       clear h37
       go_simp
       exact hK.out _ _ (Below.refl _ _) (rfl) trivial
      refine AK.sc (lim := 2) (lo := 0) rfl rfl rfl rfl ?_ ?_
      ·intro k_ u w_ hk_ hl_ hJ hF K hK
       have h38 : u 38 = .pointer (some ⟨s0 + 6, i * 3 + 2, none⟩) := AK.facts_get hF 38 (by simp)
       clear hF
       simp only [h38] at hK ⊢
       clear h38
       have hc9 := HR.out _ (HBI.out.trans (hJ.1.mono HBI.out.size)) i hlt
       obtain ⟨r0, r1, r2⟩ := hc9
       rw [HN.out] at r2
       go_simp
       exact hK.out _ _ (Below.refl _ _) (rfl) trivial
      refine AK.sc (lim := 2) (lo := 0) rfl rfl rfl rfl ?_ ?_
      ·intro k_ u w_ hk_ hl_ hJ hF K hK
       clear hF
       go_simp
       exact hK.out _ _ (Below.refl _ _) (rfl) trivial
      refine AK.sc (lim := 2) (lo := 0) rfl rfl rfl rfl ?_ ?_
      ·intro k_ u w_ hk_ hl_ hJ hF K hK
       have h39 : u 39 = .slice (some ⟨s0 + i, 0, none⟩) n n := AK.facts_get hF 39 (by simp)
       have h40 : u 40 = .int .i64 (k : Int) := AK.facts_get hF 40 (by simp)
       clear hF
       simp only [h39, h40] at hK ⊢
       clear h39 h40
       go_simp
       exact hK.out _ _ (Below.refl _ _) (rfl) trivial
      refine AK.sc (lim := 2) (lo := 0) rfl rfl rfl rfl ?_ ?_
      ·intro k_ u w_ hk_ hl_ hJ hF K hK
       have h41 : u 41 = .pointer (some ⟨s0 + i, k, none⟩) := AK.facts_get hF 41 (by simp)
       clear hF
       simp only [h41] at hK ⊢
       clear h41
       have q0 := HQ.out _ (HBI.out.trans (hJ.1.mono HBI.out.size))
       go_simp
       exact hK.out _ _ (Below.refl _ _) (rfl) trivial
      refine AK.sc (lim := 2) (lo := 0) rfl rfl rfl rfl ?_ ?_
      ·intro k_ u w_ hk_ hl_ hJ hF K hK
       clear hF
       go_simp
       exact hK.out _ _ (Below.refl _ _) (rfl) trivial
      refine AK.sc (lim := 2) (lo := 0) rfl rfl rfl rfl ?_ ?_
      ·intro k_ u w_ hk_ hl_ hJ hF K hK
       clear hF
       go_simp
       exact hK.out _ _ (Below.refl _ _) (rfl) trivial
      refine AK.sc (lim := 2) (lo := 0) rfl rfl rfl rfl ?_ ?_
      ·intro k_ u w_ hk_ hl_ hJ hF K hK
       have h43 : u 43 = .slice (some ⟨s0 + 6, 0, none⟩) 6 6 := AK.facts_get hF 43 (by simp)
       have h44 : u 44 = .int .i64 (i : Int) := AK.facts_get hF 44 (by simp)
       clear hF
       simp only [h43, h44] at hK ⊢
       clear h43 h44
       go_simp
       exact hK.out _ _ (Below.refl _ _) (rfl) trivial
      refine AK.sc (lim := 2) (lo := 0) rfl rfl rfl rfl ?_ ?_
      ·intro k_ u w_ hk_ hl_ hJ hF K hK
       have h45 : u 45 = .pointer (some ⟨s0 + 6, i * 3, none⟩) := AK.facts_get hF 45 (by simp)
       clear hF
       simp only [h45] at hK ⊢
       clear h45
       go_simp
       exact hK.out _ _ (Below.refl _ _) (rfl) trivial
      refine AK.sc (lim := 2) (lo := 0) rfl rfl rfl rfl ?_ ?_
      ·intro k_ u w_ hk_ hl_ hJ hF K hK
       have h46 : u 46 = .pointer (some ⟨s0 + 6, i * 3, none⟩) := AK.facts_get hF 46 (by simp)
       clear hF
       simp only [h46] at hK ⊢
       clear h46
       have hc9 := HR.out _ (HBI.out.trans (hJ.1.mono HBI.out.size)) i hlt
       obtain ⟨r0, r1, r2⟩ := hc9
       rw [HN.out] at r2
       go_simp
       exact hK.out _ _ (Below.refl _ _) (rfl) trivial
      refine AK.sc (lim := 2) (lo := 0) rfl rfl rfl rfl ?_ ?_
      ·intro k_ u w_ hk_ hl_ hJ hF K hK
       clear hF
       go_simp
       exact hK.out _ _ (Below.refl _ _) (rfl) trivial
      refine AK.sc (lim := 2) (lo := 0) rfl rfl rfl rfl ?_ ?_
      ·intro k_ u w_ hk_ hl_ hJ hF K hK
       clear hF
       go_simp
       exact hK.out _ _ (Below.refl _ _) (rfl) trivial
      refine AK.sc (lim := 2) (lo := 0) rfl rfl rfl rfl ?_ ?_
      ·intro k_ u w_ hk_ hl_ hJ hF K hK
       have h48 : u 48 = .slice (some ⟨s0 + 6, 0, none⟩) 6 6 := AK.facts_get hF 48 (by simp)
       have h49 : u 49 = .int .i64 (i : Int) := AK.facts_get hF 49 (by simp)
       clear hF
       simp only [h48, h49] at hK ⊢
       clear h48 h49
       go_simp
       exact hK.out _ _ (Below.refl _ _) (rfl) trivial
      refine AK.sc (lim := 2) (lo := 0) rfl rfl rfl rfl ?_ ?_
      ·intro k_ u w_ hk_ hl_ hJ hF K hK
       have h50 : u 50 = .pointer (some ⟨s0 + 6, i * 3, none⟩) := AK.facts_get hF 50 (by simp)
       clear hF
       simp only [h50] at hK ⊢
       clear h50
       go_simp
       exact hK.out _ _ (Below.refl _ _) (rfl) trivial
      refine AK.sc (lim := 2) (lo := 0) rfl rfl rfl rfl ?_ ?_
      ·intro k_ u w_ hk_ hl_ hJ hF K hK
       have h51 : u 51 = .pointer (some ⟨s0 + 6, i * 3 + 1, none⟩) := AK.facts_get hF 51 (by simp)
       clear hF
       simp only [h51] at hK ⊢
       clear h51
       have hc9 := HR.out _ (HBI.out.trans (hJ.1.mono HBI.out.size)) i hlt
       obtain ⟨r0, r1, r2⟩ := hc9
       rw [HN.out] at r2
       go_simp
       exact hK.out _ _ (Below.refl _ _) (rfl) trivial
      refine AK.sc (lim := 2) (lo := 0) rfl rfl rfl rfl ?_ ?_
      ·intro k_ u w_ hk_ hl_ hJ hF K hK
       have h42 : u 42 = .int .i64 c := AK.facts_get hF 42 (by simp)
       have h47 : u 47 = .int .i64 (krow i) := AK.facts_get hF 47 (by simp)
       have h52 : u 52 = .int .i64 (brow i) := AK.facts_get hF 52 (by simp)
       clear hF
       simp only [h42, h47, h52] at hK ⊢
       clear h42 h47 h52
       go_simp
       exact hK.out _ _ (Below.refl _ _) (rfl) trivial
      refine AK.ss rfl rfl ?_ ?_
      ·intro u w_ hJ hA_ hF K hK
       clear hF
       go_simp
       exact hK.out _ _ ⟨hJ.1.trans ((below_alloc_new _).mono hJ.1.size), fun v hv => ⟨w_.heap.size, by cases hv; rfl, hJ.1.size, Wh.new w_ _ [.int .i64 0, .int .i64 0, .int .i64 0, .int .i64 0]⟩⟩ (by simp) trivial
      refine AK.ss rfl rfl ?_ ?_
      ·intro u w_ hJ hA_ hF K hK
       have h53 : u 53 = .agg #[.int .i64 c, .int .i64 (krow i), .int .i64 (brow i), .int .i64 0] := AK.facts_get hF 53 (by simp)
       clear hF
       simp only [h53] at hK ⊢
       clear h53
       obtain ⟨g5, h5v, hg5, hw5⟩ := hJ.2 _ rfl
       simp only [h5v] at hK ⊢
       refine wp_store_mid 118 _ _ rfl g5 0 #[.int .i64 c, .int .i64 (krow i), .int .i64 (brow i), .int .i64 0] rfl rfl (hw5.there (show 0 + 4 ≤ 4 from Nat.le_refl _)) (by kernel_rfl) (by kernel_rfl) ?_
       exact hK.out _ _ ⟨hJ.1.trans (below_setCells hg5 _ _ (Below.refl _ _)), fun v hv => ⟨g5, by cases hv; exact h5v, hg5, hw5.put _ rfl⟩⟩ (Nat.le_of_eq (setCells_size _ _ _ _).symm) trivial
      exact AK.StepsOk.nil
     ·intro u W9 hJ9 hF
      clear hF
      have hB9 := hJ9.1
      obtain ⟨g9, h9, hg9, hw9⟩ := hJ9.2 _ rfl
      clear hJ9
      simp only [h9]
      clear h9
      have HB9 := Lib.hid (HBI.out.trans (hB9.mono HBI.out.size))
      have z0 := hw9.at 0 _ rfl
      have z1 := hw9.at 1 _ rfl
      have z2 := hw9.at 2 _ rfl
      have z3 := hw9.at 3 _ rfl
      have z4 := hw9.frozen 3
      have hwf := hw9
      have HWF : Hid (Wh 118 W9 g9 (celA ⟨c, krow i, brow i, 0⟩)) := Lib.hid hwf
      have HO9 : Hid (OwnR lyA 118 W9 s1 u2 (scN i k)) := Lib.hid ((HO.out.up hB9))
      have HBF : Hid (Below s1 w2 W9) := Lib.hid (HB9.out.mono (Nat.le_of_eq HS1.out.symm))
      have HSZ9 : Hid (s1 ≤ W9.heap.size) := Lib.hid (by have := HBF.out.size; have := HS1.out; omega)
      have HRO : Hid (RowAt lyA (W9.alloc (.cells #[.int .i64 c, .int .i64 (krow i), .int .i64 (brow i), .int .i64 0] 118)) (some ⟨W9.heap.size, 0, none⟩) [⟨c, krow i, brow i, 0⟩]) := Lib.hid (by have h := row_one (R := lyA) (x := ⟨c, krow i, brow i, 0⟩) (Wh.new W9 118 [.int .i64 c, .int .i64 (krow i), .int .i64 (brow i), .int .i64 0]); first | exact h | (rw [World.size_setCell] at h; exact h))
      clear hw9 hwf hB9
      go_wp2_with (at_builtin; refine wpList_app_row (R := lyA) rfl (.tmp 68) (.tmp 70) 24 rfl i0 _ 32 Tryz.underlying24 hi hz1 hz2 hz3 (by omega) rfl rfl ((HO9.out).up (below_alloc_new _)) (some ⟨W9.heap.size, 0, none⟩) 1 1 [⟨c, krow i, brow i, 0⟩] rfl rfl HRO.out (by have := HLN.out; simp; omega) (Nat.le_trans HSZ9.out (by simp)) ?_; intro v5 w5 ho5 hg5 hn5)
      have HO5 : Hid (OwnR lyA 118 w5 s1 v5 (scN i (k + 1))) := Lib.hid (by rw [scN_k, HAN2.out]; exact ho5.out)
      have HB5 : Hid (Below s1 w2 w5) := Lib.hid ((HBF.out.trans ((below_alloc_new _).mono HSZ9.out)).grown hg5.out (Nat.le_trans HSZ9.out (by simp)) (fun g hg => (HO9.out.lt hg).1))
      clear ho5 hg5 hn5 HO9 HAN2 HWF z0 z1 z2 z3 z4
      go_wp2_with fail
      go_roundg (n - (k + 1))
      case measure => omega
      case rel => exact ⟨k + 1, by go_num, by omega, by omega, HO5, HB5.out⟩
    ·obtain rfl : k = n := by omega
     have hklz : ¬ (k : Int) < (k : Int) := by omega
     go_wp2_with fail
     go_roundg (6 - (i + 1))
     case measure => omega
     case rel => exact ⟨i + 1, by go_num, by omega, by omega, Lib.hid (by rw [scN_i, HN.out]; exact HO.out), by rw [← HS1.out]; exact HBI.out⟩
  ·obtain rfl : i = 6 := by omega
   obtain ⟨A, c, hv, -, -⟩ := HOo.out.reads
   obtain rfl := hv
   have HBo := Lib.hid hBo
   clear hBo
   go_wp2_with fail
   go_ret
   exact ⟨⟨A, c, rfl, s1, by have := HS0.out; have := HS07.out; omega, HOo.out⟩, by have h9 := HB2.out.trans (HBo.out.mono (by have := HS07.out; omega)); rw [← HS0.out] at h9; exact h9⟩
def seK (i : Nat) : Int := [1, 1, 1, 1, 1, 2, 2, 3, 3, 4, 4, 4, 5, 5].getD i 0
def seT (i : Nat) : Int := [1010, 1100, 1200, 1300, 1500, 2000, 2100, 3000, 3300, 4000, 4100, 4700, 5000, 5100].getD i 0
def seA (i : Nat) : List Acc := (List.range i).map fun (j : Nat) => ⟨10 * ((j : Int) + 1), seK j, 0, 0⟩
def seL (i : Nat) : List Lnk := (List.range i).map fun (j : Nat) => ⟨10 * ((j : Int) + 1), seT j, -25567⟩
theorem seA_s (i : Nat) : seA (i + 1) = seA i ++ [⟨10 * ((i : Int) + 1), seK i, 0, 0⟩] := by simp [seA, List.range_succ]
theorem seL_s (i : Nat) : seL (i + 1) = seL i ++ [⟨10 * ((i : Int) + 1), seT i, -25567⟩] := by simp [seL, List.range_succ]
theorem infoLk : (Tryz.prog.info? 145).map (fun i => (i.zero, i.size, i.bytes)) = some (some (.agg #[.int .i64 0, .int .i64 0, .int .i64 0]), 3, 24) := by kernel_rfl
def seS (s0 : Nat) (v : Value) (k : Nat) : Prop := v.ownBlock = some k ∨ k = s0 + 3
def seC (nm cu : ByteArray) (va vl : Value) (f : Nat) (v : Value) : List Value := [.string nm, .string cu, va, vl, .bool false].set f v
section
variable {α : Type} (R : Lay α) (e : TypeId) (wr : World) (s0 : Nat) (vs : Value) (nm cu : ByteArray) (va vl : Value) (f : Nat) (L : List α) (x : α)
def seP (v : Value) (w : World) : Prop := ∃ b, v = .slice (some ⟨b, 0, none⟩) 1 1 ∧ wr.heap.size ≤ b ∧ (∀ k, seS s0 vs k → k < wr.heap.size) ∧ RowAt R w (some ⟨b, 0, none⟩) [x]
def seF : AK.Fact (Only (seS s0 vs)) := ⟨seP R wr s0 vs x, fun _ w w' hb ⟨b, h1, h2, h3, h4⟩ => ⟨b, h1, h2, h3, h4.same fun g o hg => by
 cases hg
 obtain ⟨b', o', e', hlt, _⟩ := h4 (by simp)
 cases e'
 exact hb.blk _ hlt fun hs => by have := h3 _ hs; omega⟩⟩
def seJ (k : Nat) (l : List Value) (W : World) : Prop := Only (seS s0 vs) wr W ∧ match k with
 | 0 => Wh 116 W (s0 + 3) [.string nm, .string cu, va, vl, .bool false] ∧ OwnR R e W (s0 + 4) vs L
 | 1 => Wh 116 W (s0 + 3) [.string nm, .string cu, va, vl, .bool false] ∧ ∀ v, l = [v] → OwnR R e W (s0 + 4) v (L ++ [x])
 | _ => ∀ v, l = [v] → Wh 116 W (s0 + 3) (seC nm cu va vl f v) ∧ OwnR R e W (s0 + 4) v (L ++ [x])
theorem seJ.st (k : Nat) (l : List Value) (W W' : World) (hb : Below W.heap.size W W') (h : seJ R e wr s0 vs nm cu va vl f L x k l W) : seJ R e wr s0 vs nm cu va vl f L x k l W' := by
 refine ⟨h.1.trans (Only.of hb), ?_⟩
 match k, h.2 with
 | 0, ⟨h1, h2⟩ => exact ⟨h1.up hb, h2.up hb⟩
 | 1, ⟨h1, h2⟩ => exact ⟨h1.up hb, fun v hv => (h2 v hv).up hb⟩
 | _ + 2, h2 => exact fun v hv => ⟨(h2 v hv).1.up hb, (h2 v hv).2.up hb⟩
end
section
variable {α : Type} {R : Lay α} {e : TypeId} {wr : World} {s0 : Nat} {vs : Value} {nm cu : ByteArray} {va vl : Value} {f : Nat} {L : List α} {x : α} {l : List Value} {v : Value} {W : World}
theorem seJ.mk1 (h : Only (seS s0 vs) wr W) (hl : l = [v]) (h1 : Wh 116 W (s0 + 3) [.string nm, .string cu, va, vl, .bool false]) (h2 : OwnR R e W (s0 + 4) v (L ++ [x])) : seJ R e wr s0 vs nm cu va vl f L x 1 l W :=
 ⟨h, h1, fun v' h' => by rw [hl] at h'; cases h'; exact h2⟩
theorem seJ.mk2 (h : Only (seS s0 vs) wr W) (hl : l = [v]) (h1 : Wh 116 W (s0 + 3) (seC nm cu va vl f v)) (h2 : OwnR R e W (s0 + 4) v (L ++ [x])) : seJ R e wr s0 vs nm cu va vl f L x 2 l W :=
 ⟨h, fun v' h' => by rw [hl] at h'; cases h'; exact ⟨h1, h2⟩⟩
end
def seFa2 (s0 i : Nat) (wr : World) (va : Value) (q : Int) : List (Nat × AK.Fact (Only (seS s0 va))) := [(20, AK.Fact.is (.pointer (some ⟨s0 + 3, 2, none⟩))), (21, AK.Fact.is (va)), (22, AK.Fact.is (.int .i64 (i : Int))), (23, AK.Fact.is (.int .i64 ((i : Int) + 1))), (24, AK.Fact.is (.int .i64 (10 * ((i : Int) + 1)))), (25, AK.Fact.is (.slice (some ⟨s0 + 2, 0, none⟩) 14 14)), (26, AK.Fact.is (.int .i64 (i : Int))), (27, AK.Fact.is (.pointer (some ⟨s0 + 2, i, none⟩))), (28, AK.Fact.is (.int .i64 q)), (29, AK.Fact.is (.agg #[.int .i64 (10 * ((i : Int) + 1)), .int .i64 q, .int .i64 0, .int .i64 0])), (30, seF lyA wr s0 va ⟨10 * ((i : Int) + 1), q, 0, 0⟩), (31, AK.Fact.triv), (32, AK.Fact.is (.pointer (some ⟨s0 + 3, 2, none⟩)))]
def seFa3 (s0 i : Nat) (wr : World) (vl : Value) (q : Int) : List (Nat × AK.Fact (Only (seS s0 vl))) := [(33, AK.Fact.is (.pointer (some ⟨s0 + 3, 3, none⟩))), (34, AK.Fact.is (vl)), (35, AK.Fact.is (.int .i64 (i : Int))), (36, AK.Fact.is (.int .i64 ((i : Int) + 1))), (37, AK.Fact.is (.int .i64 (10 * ((i : Int) + 1)))), (38, AK.Fact.is (.slice (some ⟨s0 + 1, 0, none⟩) 14 14)), (39, AK.Fact.is (.int .i64 (i : Int))), (40, AK.Fact.is (.pointer (some ⟨s0 + 1, i, none⟩))), (41, AK.Fact.is (.int .i64 q)), (42, AK.Fact.is (.agg #[.int .i64 (10 * ((i : Int) + 1)), .int .i64 q, .int .i64 (-25567)])), (43, seF lyL wr s0 vl ⟨10 * ((i : Int) + 1), q, -25567⟩), (44, AK.Fact.triv), (45, AK.Fact.is (.pointer (some ⟨s0 + 3, 3, none⟩)))]
set_option maxRecDepth 100000 in
set_option maxHeartbeats 12800000 in
theorem spent_any (nm cu : ByteArray) (w : World) : Calls Tryz.prog 79 #[.string nm, .string cu] w fun e w' => (∃ A c B d, e = .returned (.agg #[.string nm, .string cu, .slice A 14 c, .slice B 14 d, .bool false]) ∧ OwnR lyA 118 w' w.heap.size (.slice A 14 c) (seA 14) ∧ OwnR lyL 145 w' w.heap.size (.slice B 14 d) (seL 14)) ∧ Below w.heap.size w w' := by
 obtain ⟨s0, hs0⟩ : ∃ s0, w.heap.size = s0 := ⟨_, rfl⟩
 obtain ⟨w3, hw3⟩ : ∃ w3, ((((w.alloc (.cells #[.string ⟨#[]⟩, .string ⟨#[]⟩, .slice none 0 0, .slice none 0 0, .bool false] 116)).alloc (.cells #[.int .i64 1010, .int .i64 1100, .int .i64 1200, .int .i64 1300, .int .i64 1500, .int .i64 2000, .int .i64 2100, .int .i64 3000, .int .i64 3300, .int .i64 4000, .int .i64 4100, .int .i64 4700, .int .i64 5000, .int .i64 5100] 3)).alloc (.cells #[.int .i64 1, .int .i64 1, .int .i64 1, .int .i64 1, .int .i64 1, .int .i64 2, .int .i64 2, .int .i64 3, .int .i64 3, .int .i64 4, .int .i64 4, .int .i64 4, .int .i64 5, .int .i64 5] 3)).alloc (.cells #[.string ⟨#[]⟩, .string ⟨#[]⟩, .slice none 0 0, .slice none 0 0, .bool false] 116)) = w3 := ⟨_, rfl⟩
 have hw3' : [.cells #[.string ⟨#[]⟩, .string ⟨#[]⟩, .slice none 0 0, .slice none 0 0, .bool false] 116, .cells #[.int .i64 1010, .int .i64 1100, .int .i64 1200, .int .i64 1300, .int .i64 1500, .int .i64 2000, .int .i64 2100, .int .i64 3000, .int .i64 3300, .int .i64 4000, .int .i64 4100, .int .i64 4700, .int .i64 5000, .int .i64 5100] 3, .cells #[.int .i64 1, .int .i64 1, .int .i64 1, .int .i64 1, .int .i64 1, .int .i64 2, .int .i64 2, .int .i64 3, .int .i64 3, .int .i64 4, .int .i64 4, .int .i64 4, .int .i64 5, .int .i64 5] 3, .cells #[.string ⟨#[]⟩, .string ⟨#[]⟩, .slice none 0 0, .slice none 0 0, .bool false] 116].foldl World.alloc w = w3 := hw3
 obtain ⟨i0, hi, hz1, hz2, hz3⟩ := info_parts infoAc
 obtain ⟨j0, hj, hy1, hy2, hy3⟩ := info_parts infoLk
 have HBK : ∀ i o, [.cells #[.string ⟨#[]⟩, .string ⟨#[]⟩, .slice none 0 0, .slice none 0 0, .bool false] 116, .cells #[.int .i64 1010, .int .i64 1100, .int .i64 1200, .int .i64 1300, .int .i64 1500, .int .i64 2000, .int .i64 2100, .int .i64 3000, .int .i64 3300, .int .i64 4000, .int .i64 4100, .int .i64 4700, .int .i64 5000, .int .i64 5100] 3, .cells #[.int .i64 1, .int .i64 1, .int .i64 1, .int .i64 1, .int .i64 1, .int .i64 2, .int .i64 2, .int .i64 3, .int .i64 3, .int .i64 4, .int .i64 4, .int .i64 4, .int .i64 5, .int .i64 5] 3, .cells #[.string ⟨#[]⟩, .string ⟨#[]⟩, .slice none 0 0, .slice none 0 0, .bool false] 116][i]? = some o → w3.heap[s0 + i]? = some o := fun i o h => by
  have := allocs_at [.cells #[.string ⟨#[]⟩, .string ⟨#[]⟩, .slice none 0 0, .slice none 0 0, .bool false] 116, .cells #[.int .i64 1010, .int .i64 1100, .int .i64 1200, .int .i64 1300, .int .i64 1500, .int .i64 2000, .int .i64 2100, .int .i64 3000, .int .i64 3300, .int .i64 4000, .int .i64 4100, .int .i64 4700, .int .i64 5000, .int .i64 5100] 3, .cells #[.int .i64 1, .int .i64 1, .int .i64 1, .int .i64 1, .int .i64 1, .int .i64 2, .int .i64 2, .int .i64 3, .int .i64 3, .int .i64 4, .int .i64 4, .int .i64 4, .int .i64 5, .int .i64 5] 3, .cells #[.string ⟨#[]⟩, .string ⟨#[]⟩, .slice none 0 0, .slice none 0 0, .bool false] 116] w i o h
  rw [hw3', hs0] at this
  exact this
 have HT : Hid (Wh 3 w3 (s0 + 1) [.int .i64 1010, .int .i64 1100, .int .i64 1200, .int .i64 1300, .int .i64 1500, .int .i64 2000, .int .i64 2100, .int .i64 3000, .int .i64 3300, .int .i64 4000, .int .i64 4100, .int .i64 4700, .int .i64 5000, .int .i64 5100]) := Lib.hid ⟨HBK 1 _ rfl⟩
 have HD : Hid (Wh 3 w3 (s0 + 2) [.int .i64 1, .int .i64 1, .int .i64 1, .int .i64 1, .int .i64 1, .int .i64 2, .int .i64 2, .int .i64 3, .int .i64 3, .int .i64 4, .int .i64 4, .int .i64 4, .int .i64 5, .int .i64 5]) := Lib.hid ⟨HBK 2 _ rfl⟩
 have HZ0 : Hid (Wh 116 w3 s0 [.string ⟨#[]⟩, .string ⟨#[]⟩, .slice none 0 0, .slice none 0 0, .bool false]) := Lib.hid ⟨HBK 0 _ rfl⟩
 have HZ : Hid (Wh 116 w3 (s0 + 3) [.string ⟨#[]⟩, .string ⟨#[]⟩, .slice none 0 0, .slice none 0 0, .bool false]) := Lib.hid ⟨HBK 3 _ rfl⟩
 have HB3 : Hid (Below s0 w w3) := Lib.hid (by rw [← hw3', ← hs0]; exact allocs_below _ _)
 have HS3 : Hid (w3.heap.size = s0 + 4) := Lib.hid (by rw [← hw3, ← hs0]; simp)
 have HS0 := Lib.hid hs0
 clear HBK hw3'
 go_enter Tryz.func79, Tryz.ntmps79
 go_wp2_with (refine wpList_store_wh rfl 116 _ _ rfl (s0 + 3) rfl 116 [.string ⟨#[]⟩, .string ⟨#[]⟩, .slice none 0 0, .slice none 0 0, .bool false] [.string nm, .string cu, .slice none 0 0, .slice none 0 0, .bool false] rfl HZ.out rfl (by kernel_rfl) (by kernel_rfl) ?_; intro W8 hr8 ho8 hz8)
 clear hw3 hs0
 have HB8 : Hid (Below (s0 + 3) w3 W8) := Lib.hid (ho8.out.below (fun k hk => Nat.le_of_eq hk.symm) (by have := HS3.out; omega))
 have HS8 : Hid (W8.heap.size = s0 + 4) := Lib.hid (hz8.trans HS3.out)
 clear hz8 ho8
 go_loopg [8] 14 (fun kx s8 wr => ∃ i : Nat, s8 = .int .i64 i ∧ i ≤ 14 ∧ 14 - i ≤ kx ∧ (∃ va vl, Hid (Wh 116 wr (s0 + 3) [.string nm, .string cu, va, vl, .bool false]) ∧ Hid (OwnR lyA 118 wr (s0 + 4) va (seA i)) ∧ Hid (OwnR lyL 145 wr (s0 + 4) vl (seL i))) ∧ Hid (Below (s0 + 3) w3 wr) ∧ Hid (s0 + 4 ≤ wr.heap.size))
 case atStart => exact ⟨0, rfl, by omega, by omega, ⟨_, _, Lib.hid hr8.out, Lib.hid OwnR.nil, Lib.hid OwnR.nil⟩, HB8, Lib.hid (Nat.le_of_eq HS8.out.symm)⟩
 case round =>
  clear hr8 HB8 HS8
  obtain ⟨i, rfl, hil, hkx, ⟨va, vl, HG, HA, HV⟩, HB, HW1⟩ := hrel
  by_cases hlt : i < 14
  ·have hltz : (i : Int) < 14 := by omega
   have HLN2 : Hid ((seA i).length = i) := Lib.hid (by simp [seA])
   have HLN3 : Hid ((seL i).length = i) := Lib.hid (by simp [seL])
   have HSW : Hid (∀ k, seS s0 va k → k < wr.heap.size) := Lib.hid (fun k hk => by rcases hk with hk | hk; exact (HA.out.lt hk).2; have := HW1.out; omega)
   have HA1 : Hid (IntKind.i64.wrap ((i : Int) + 1) = (i : Int) + 1) := Lib.hid (IntWalk.i64_in _ (by omega))
   have HA2_ : Hid (IntKind.i64.wrap (10 * ((i : Int) + 1)) = 10 * ((i : Int) + 1)) := Lib.hid (IntWalk.i64_in _ (by omega))
   have HI := Lib.hid (seA_s i)
   have HJ := Lib.hid (seL_s i)
   have hq2 : ∀ W, Only (seS s0 va) wr W → W.cell? ⟨s0 + 2, i, none⟩ = some (.int .i64 (seK i)) := fun W hb => by
    rw [hb.cell (by have := HW1.out; omega) (fun hs => by rcases hs with hs | hs; have := (HA.out.lt hs).1; omega; omega)]
    refine ((HB.out.cell (p := ⟨s0 + 2, i, none⟩) (by show s0 + 2 < s0 + 3; omega)).trans (HD.out.at i _ ?_))
    match i, hlt with
    | 0, _ | 1, _ | 2, _ | 3, _ | 4, _ | 5, _ | 6, _ | 7, _ | 8, _ | 9, _ | 10, _ | 11, _ | 12, _ | 13, _ => rfl
   obtain ⟨q, hq⟩ : ∃ q, seK i = q := ⟨_, rfl⟩
   rw [hq] at hq2 HI
   have HQ2 := Lib.hid hq2
   clear hq2 hq
   go_wp2_with fail
   refine AK.region_facts (Rp := Below0) (Kp := Only (seS s0 va)) (seFa2 s0 i wr va q) (seJ lyA 118 wr s0 va nm cu va vl 2 (seA i) ⟨10 * ((i : Int) + 1), q, 0, 0⟩) [[], [20], [], [22], [23], [], [], [25, 26], [27], [24, 28], [29], [21, 30], [], [32]] [11, 13] [[], [31], [31]] [0, 0, 2, 2, 2, 2, 2, 2, 2, 0, 0, 2, 1, 2] [0, 0, 0, 0, 0, 0, 0, 0, 0, 0, 0, 0, 0, 0] [] (fun u => by simp only [seFa2, AK.temps, List.map_cons, List.map_nil, fillL, List.setIfInBounds_toArray, List.set_cons_zero, List.set_cons_succ]; rfl) (by kernel_rfl) (by kernel_rfl) (fun _ _ h => h.size) (fun _ _ h => Only.of h) (seJ.st lyA 118 wr s0 va nm cu va vl 2 (seA i) ⟨10 * ((i : Int) + 1), q, 0, 0⟩) (⟨(Only.refl _).drew, HG.out.same rfl, HA.out.blk fun _ _ => rfl⟩) ?_ ?_
   ·refine AK.sc (lim := 0) (lo := 0) rfl rfl rfl rfl ?_ ?_
    ·intro k_ u w_ hk_ hl_ hJ hF K hK
     obtain rfl : k_ = 0 := by omega
     clear hF
     go_simp
     exact hK.out _ _ (Below.refl _ _) (rfl) trivial
    refine AK.sc (lim := 0) (lo := 0) rfl rfl rfl rfl ?_ ?_
    ·intro k_ u w_ hk_ hl_ hJ hF K hK
     obtain rfl : k_ = 0 := by omega
     have h20 : u 20 = .pointer (some ⟨s0 + 3, 2, none⟩) := AK.facts_get hF 20 (by simp)
     clear hF
     simp only [h20] at hK ⊢
     clear h20
     have c_ := hJ.2.1.at 2 _ rfl
     go_simp
     exact hK.out _ _ (Below.refl _ _) (rfl) trivial
    refine AK.sc (lim := 2) (lo := 0) rfl rfl rfl rfl ?_ ?_
    ·intro k_ u w_ hk_ hl_ hJ hF K hK
     clear hF
     go_simp
     exact hK.out _ _ (Below.refl _ _) (rfl) trivial
    refine AK.sc (lim := 2) (lo := 0) rfl rfl rfl rfl ?_ ?_
    ·intro k_ u w_ hk_ hl_ hJ hF K hK
     have h22 : u 22 = .int .i64 (i : Int) := AK.facts_get hF 22 (by simp)
     clear hF
     simp only [h22] at hK ⊢
     clear h22
     have a1 : IntKind.i64.wrap ((i : Int) + 1) = (i : Int) + 1 := HA1.out
     go_simp
     exact hK.out _ _ (Below.refl _ _) (rfl) trivial
    refine AK.sc (lim := 2) (lo := 0) rfl rfl rfl rfl ?_ ?_
    ·intro k_ u w_ hk_ hl_ hJ hF K hK
     have h23 : u 23 = .int .i64 ((i : Int) + 1) := AK.facts_get hF 23 (by simp)
     clear hF
     simp only [h23] at hK ⊢
     clear h23
     have a1 : IntKind.i64.wrap (10 * ((i : Int) + 1)) = 10 * ((i : Int) + 1) := HA2_.out
     go_simp
     exact hK.out _ _ (Below.refl _ _) (rfl) trivial
    refine AK.sc (lim := 2) (lo := 0) rfl rfl rfl rfl ?_ ?_
    ·intro k_ u w_ hk_ hl_ hJ hF K hK
     clear hF
     go_simp
     exact hK.out _ _ (Below.refl _ _) (rfl) trivial
    refine AK.sc (lim := 2) (lo := 0) rfl rfl rfl rfl ?_ ?_
    ·intro k_ u w_ hk_ hl_ hJ hF K hK
     clear hF
     go_simp
     exact hK.out _ _ (Below.refl _ _) (rfl) trivial
    refine AK.sc (lim := 2) (lo := 0) rfl rfl rfl rfl ?_ ?_
    ·intro k_ u w_ hk_ hl_ hJ hF K hK
     have h25 : u 25 = .slice (some ⟨s0 + 2, 0, none⟩) 14 14 := AK.facts_get hF 25 (by simp)
     have h26 : u 26 = .int .i64 (i : Int) := AK.facts_get hF 26 (by simp)
     clear hF
     simp only [h25, h26] at hK ⊢
     clear h25 h26
     go_simp
     exact hK.out _ _ (Below.refl _ _) (rfl) trivial
    refine AK.sc (lim := 2) (lo := 0) rfl rfl rfl rfl ?_ ?_
    ·intro k_ u w_ hk_ hl_ hJ hF K hK
     have h27 : u 27 = .pointer (some ⟨s0 + 2, i, none⟩) := AK.facts_get hF 27 (by simp)
     clear hF
     simp only [h27] at hK ⊢
     clear h27
     have q_ := HQ2.out _ hJ.1
     go_simp
     exact hK.out _ _ (Below.refl _ _) (rfl) trivial
    refine AK.sc (lim := 0) (lo := 0) rfl rfl rfl rfl ?_ ?_
    ·intro k_ u w_ hk_ hl_ hJ hF K hK
     obtain rfl : k_ = 0 := by omega
     have h24 : u 24 = .int .i64 (10 * ((i : Int) + 1)) := AK.facts_get hF 24 (by simp)
     have h28 : u 28 = .int .i64 q := AK.facts_get hF 28 (by simp)
     clear hF
     simp only [h24, h28] at hK ⊢
     clear h24 h28
     go_simp
     exact hK.out _ _ (Below.refl _ _) (rfl) trivial
    refine AK.sc (lim := 0) (lo := 0) rfl rfl rfl rfl ?_ ?_
    ·intro k_ u w_ hk_ hl_ hJ hF K hK
     obtain rfl : k_ = 0 := by omega
     have h29 : u 29 = .agg #[.int .i64 (10 * ((i : Int) + 1)), .int .i64 q, .int .i64 0, .int .i64 0] := AK.facts_get hF 29 (by simp)
     clear hF
     simp only [h29] at hK ⊢
     clear h29
     go_simp
     exact hK.out _ _ (below_alloc_new _) ⟨w_.heap.size, rfl, hJ.1.size, HSW.out, row_one (R := lyA) (x := ⟨10 * ((i : Int) + 1), q, 0, 0⟩) (Wh.new w_ _ [.int .i64 (10 * ((i : Int) + 1)), .int .i64 q, .int .i64 0, .int .i64 0])⟩ trivial
    refine AK.ss rfl rfl ?_ ?_
    ·intro u w_ hJ hA_ hF K hK
     have h21 : u 21 = va := AK.facts_get hF 21 (by simp)
     have h30 : seP lyA wr s0 va ⟨10 * ((i : Int) + 1), q, 0, 0⟩ (u 30) w_ := AK.facts_get hF 30 (by simp)
     clear hF
     obtain ⟨b9, h30, hb9, -, hr9⟩ := h30
     simp only [h21, h30] at hK ⊢
     clear h21 h30
     have hS1 : s0 + 4 ≤ w_.heap.size := Nat.le_trans HW1.out hJ.1.size
     rw [if_pos (by rfl)]
     refine wp_app_row (R := lyA) (v := va) (.tmp 21) (.tmp 30) 24 rfl i0 _ 32 Tryz.underlying24 hi hz1 hz2 hz3 (by omega) rfl rfl (hJ.2.2) (some ⟨b9, 0, none⟩) 1 1 [⟨10 * ((i : Int) + 1), q, 0, 0⟩] rfl rfl hr9 (by have := HLN2.out; simp; omega) hS1 ?_
     intro v' w' ho' hg' hn'
     exact hK.out _ _ (seJ.mk1 (v := v') (hJ.1.trans (Only.grown hg'.out (fun k hk => .inl hk))) rfl (hJ.2.1.same (hg'.out.block _ hJ.2.1.lt (fun e => by have := (hJ.2.2.lt e.symm).1; omega))) ho'.out) (Only.grown hg'.out (fun k hk => .inl hk)) trivial
    refine AK.sc (lim := 1) (lo := 0) rfl rfl rfl rfl ?_ ?_
    ·intro k_ u w_ hk_ hl_ hJ hF K hK
     clear hF
     go_simp
     exact hK.out _ _ (Below.refl _ _) (rfl) trivial
    refine AK.ss rfl rfl ?_ ?_
    ·intro u w_ hJ hA_ hF K hK
     have h32 : u 32 = .pointer (some ⟨s0 + 3, 2, none⟩) := AK.facts_get hF 32 (by simp)
     clear hF
     simp only [h32] at hK ⊢
     clear h32
     have hO9 := hJ.2.2 _ rfl
     obtain ⟨A9, c9, h9_, -, -⟩ := hO9.reads
     have hO9 : OwnR lyA 118 w_ (s0 + 4) (u 31) (seA i ++ [⟨10 * ((i : Int) + 1), q, 0, 0⟩]) := hO9
     have h9_ : u 31 = _ := h9_
     obtain ⟨n9, hn9⟩ : ∃ n, (seA i ++ [(⟨10 * ((i : Int) + 1), q, 0, 0⟩ : Acc)]).length = n := ⟨_, rfl⟩
     rw [hn9] at h9_
     clear hn9
     rw [h9_] at hO9
     simp only [h9_] at hK ⊢
     have c_ := hJ.2.1.at 2 _ rfl
     have z_ := hJ.2.1.frozen 2
     go_simp
     exact hK.out undef _ (seJ.mk2 (v := u 31) (hJ.1.trans (Only.setCell _ (a := ⟨s0 + 3, 2, none⟩) (.inr rfl) _)) rfl (by rw [h9_]; exact hJ.2.1.set 2 _) (by rw [h9_]; exact hO9.blk (fun g hg => Below.heap_setCell _ _ _ _ (by have := (hO9.lt hg).1; show g ≠ s0 + 3; omega)))) (Only.setCell _ (a := ⟨s0 + 3, 2, none⟩) (.inr rfl) _) trivial
    exact AK.StepsOk.nil
   ·intro u W9 hJ9 hF
    clear hF
    have hB9 := hJ9.1
    obtain ⟨hG9, hA9⟩ := hJ9.2 _ rfl
    clear hJ9
    generalize u 31 = va2 at *
    have HG2 : Hid (Wh 116 W9 (s0 + 3) [.string nm, .string cu, va2, vl, .bool false]) := Lib.hid hG9
    have HA2 := Lib.hid hA9
    have HV2 : Hid (OwnR lyL 145 W9 (s0 + 4) vl (seL i)) := Lib.hid (HV.out.blk fun g hg => hB9.blk g (HV.out.lt hg).2 (fun hs => by
     rcases hs with hs | hs
     ·exact own_apart HA.out HV.out (by decide) hs hg
     ·have := (HV.out.lt hg).1; omega))
    have HB2 : Hid (Below (s0 + 3) w3 W9) := Lib.hid (HB.out.trans (hB9.below (fun k hk => by rcases hk with hk | hk; have := (HA.out.lt hk).1; omega; omega) (by have := HW1.out; omega)))
    have HW2 : Hid (s0 + 4 ≤ W9.heap.size) := Lib.hid (Nat.le_trans HW1.out hB9.size)
    clear hB9 hG9 hA9 HG HA HV HB HW1 HSW HQ2
    rename World => wr
    have HG := HG2
    have HA : Hid (OwnR lyA 118 wr (s0 + 4) va2 (seA (i + 1))) := Lib.hid (by rw [HI.out]; exact HA2.out)
    have HV := HV2
    have HB := HB2
    have HW1 := HW2
    clear HG2 HA2 HV2 HB2 HW2 HI
    have va := va2
    clear va
    have HSW : Hid (∀ k, seS s0 vl k → k < wr.heap.size) := Lib.hid (fun k hk => by rcases hk with hk | hk; exact (HV.out.lt hk).2; have := HW1.out; omega)
    have hq3 : ∀ W, Only (seS s0 vl) wr W → W.cell? ⟨s0 + 1, i, none⟩ = some (.int .i64 (seT i)) := fun W hb => by
     rw [hb.cell (by have := HW1.out; omega) (fun hs => by rcases hs with hs | hs; have := (HV.out.lt hs).1; omega; omega)]
     refine ((HB.out.cell (p := ⟨s0 + 1, i, none⟩) (by show s0 + 1 < s0 + 3; omega)).trans (HT.out.at i _ ?_))
     match i, hlt with
     | 0, _ | 1, _ | 2, _ | 3, _ | 4, _ | 5, _ | 6, _ | 7, _ | 8, _ | 9, _ | 10, _ | 11, _ | 12, _ | 13, _ => rfl
    obtain ⟨q, hq⟩ : ∃ q, seT i = q := ⟨_, rfl⟩
    rw [hq] at hq3 HJ
    have HQ3 := Lib.hid hq3
    clear hq3 hq
    go_wp2_with fail
    refine AK.region_facts (Rp := Below0) (Kp := Only (seS s0 vl)) (seFa3 s0 i wr vl q) (seJ lyL 145 wr s0 vl nm cu va2 vl 3 (seL i) ⟨10 * ((i : Int) + 1), q, -25567⟩) [[], [33], [], [35], [36], [], [], [38, 39], [40], [37, 41], [42], [34, 43], [], [45]] [11, 13] [[], [44], [44]] [0, 0, 2, 2, 2, 2, 2, 2, 2, 0, 0, 2, 1, 2] [0, 0, 0, 0, 0, 0, 0, 0, 0, 0, 0, 0, 0, 0] [] (fun u => by simp only [seFa3, AK.temps, List.map_cons, List.map_nil, fillL, List.setIfInBounds_toArray, List.set_cons_zero, List.set_cons_succ]; rfl) (by kernel_rfl) (by kernel_rfl) (fun _ _ h => h.size) (fun _ _ h => Only.of h) (seJ.st lyL 145 wr s0 vl nm cu va2 vl 3 (seL i) ⟨10 * ((i : Int) + 1), q, -25567⟩) (⟨(Only.refl _).drew, HG.out.same rfl, HV.out.blk fun _ _ => rfl⟩) ?_ ?_
    ·refine AK.sc (lim := 0) (lo := 0) rfl rfl rfl rfl ?_ ?_
     ·intro k_ u w_ hk_ hl_ hJ hF K hK
      obtain rfl : k_ = 0 := by omega
      clear hF
      go_simp
      exact hK.out _ _ (Below.refl _ _) (rfl) trivial
     refine AK.sc (lim := 0) (lo := 0) rfl rfl rfl rfl ?_ ?_
     ·intro k_ u w_ hk_ hl_ hJ hF K hK
      obtain rfl : k_ = 0 := by omega
      have h33 : u 33 = .pointer (some ⟨s0 + 3, 3, none⟩) := AK.facts_get hF 33 (by simp)
      clear hF
      simp only [h33] at hK ⊢
      clear h33
      have c_ := hJ.2.1.at 3 _ rfl
      go_simp
      exact hK.out _ _ (Below.refl _ _) (rfl) trivial
     refine AK.sc (lim := 2) (lo := 0) rfl rfl rfl rfl ?_ ?_
     ·intro k_ u w_ hk_ hl_ hJ hF K hK
      clear hF
      go_simp
      exact hK.out _ _ (Below.refl _ _) (rfl) trivial
     refine AK.sc (lim := 2) (lo := 0) rfl rfl rfl rfl ?_ ?_
     ·intro k_ u w_ hk_ hl_ hJ hF K hK
      have h35 : u 35 = .int .i64 (i : Int) := AK.facts_get hF 35 (by simp)
      clear hF
      simp only [h35] at hK ⊢
      clear h35
      have a1 : IntKind.i64.wrap ((i : Int) + 1) = (i : Int) + 1 := HA1.out
      go_simp
      exact hK.out _ _ (Below.refl _ _) (rfl) trivial
     refine AK.sc (lim := 2) (lo := 0) rfl rfl rfl rfl ?_ ?_
     ·intro k_ u w_ hk_ hl_ hJ hF K hK
      have h36 : u 36 = .int .i64 ((i : Int) + 1) := AK.facts_get hF 36 (by simp)
      clear hF
      simp only [h36] at hK ⊢
      clear h36
      have a1 : IntKind.i64.wrap (10 * ((i : Int) + 1)) = 10 * ((i : Int) + 1) := HA2_.out
      go_simp
      exact hK.out _ _ (Below.refl _ _) (rfl) trivial
     refine AK.sc (lim := 2) (lo := 0) rfl rfl rfl rfl ?_ ?_
     ·intro k_ u w_ hk_ hl_ hJ hF K hK
      clear hF
      go_simp
      exact hK.out _ _ (Below.refl _ _) (rfl) trivial
     refine AK.sc (lim := 2) (lo := 0) rfl rfl rfl rfl ?_ ?_
     ·intro k_ u w_ hk_ hl_ hJ hF K hK
      clear hF
      go_simp
      exact hK.out _ _ (Below.refl _ _) (rfl) trivial
     refine AK.sc (lim := 2) (lo := 0) rfl rfl rfl rfl ?_ ?_
     ·intro k_ u w_ hk_ hl_ hJ hF K hK
      have h38 : u 38 = .slice (some ⟨s0 + 1, 0, none⟩) 14 14 := AK.facts_get hF 38 (by simp)
      have h39 : u 39 = .int .i64 (i : Int) := AK.facts_get hF 39 (by simp)
      clear hF
      simp only [h38, h39] at hK ⊢
      clear h38 h39
      go_simp
      exact hK.out _ _ (Below.refl _ _) (rfl) trivial
     refine AK.sc (lim := 2) (lo := 0) rfl rfl rfl rfl ?_ ?_
     ·intro k_ u w_ hk_ hl_ hJ hF K hK
      have h40 : u 40 = .pointer (some ⟨s0 + 1, i, none⟩) := AK.facts_get hF 40 (by simp)
      clear hF
      simp only [h40] at hK ⊢
      clear h40
      have q_ := HQ3.out _ hJ.1
      go_simp
      exact hK.out _ _ (Below.refl _ _) (rfl) trivial
     refine AK.sc (lim := 0) (lo := 0) rfl rfl rfl rfl ?_ ?_
     ·intro k_ u w_ hk_ hl_ hJ hF K hK
      obtain rfl : k_ = 0 := by omega
      have h37 : u 37 = .int .i64 (10 * ((i : Int) + 1)) := AK.facts_get hF 37 (by simp)
      have h41 : u 41 = .int .i64 q := AK.facts_get hF 41 (by simp)
      clear hF
      simp only [h37, h41] at hK ⊢
      clear h37 h41
      go_simp
      exact hK.out _ _ (Below.refl _ _) (rfl) trivial
     refine AK.sc (lim := 0) (lo := 0) rfl rfl rfl rfl ?_ ?_
     ·intro k_ u w_ hk_ hl_ hJ hF K hK
      obtain rfl : k_ = 0 := by omega
      have h42 : u 42 = .agg #[.int .i64 (10 * ((i : Int) + 1)), .int .i64 q, .int .i64 (-25567)] := AK.facts_get hF 42 (by simp)
      clear hF
      simp only [h42] at hK ⊢
      clear h42
      go_simp
      exact hK.out _ _ (below_alloc_new _) ⟨w_.heap.size, rfl, hJ.1.size, HSW.out, row_one (R := lyL) (x := ⟨10 * ((i : Int) + 1), q, -25567⟩) (Wh.new w_ _ [.int .i64 (10 * ((i : Int) + 1)), .int .i64 q, .int .i64 (-25567)])⟩ trivial
     refine AK.ss rfl rfl ?_ ?_
     ·intro u w_ hJ hA_ hF K hK
      have h34 : u 34 = vl := AK.facts_get hF 34 (by simp)
      have h43 : seP lyL wr s0 vl ⟨10 * ((i : Int) + 1), q, -25567⟩ (u 43) w_ := AK.facts_get hF 43 (by simp)
      clear hF
      obtain ⟨b9, h43, hb9, -, hr9⟩ := h43
      simp only [h34, h43] at hK ⊢
      clear h34 h43
      have hS1 : s0 + 4 ≤ w_.heap.size := Nat.le_trans HW1.out hJ.1.size
      rw [if_pos (by rfl)]
      refine wp_app_row (R := lyL) (v := vl) (.tmp 34) (.tmp 43) 114 rfl j0 _ 24 Tryz.underlying114 hj hy1 hy2 hy3 (by omega) rfl rfl (hJ.2.2) (some ⟨b9, 0, none⟩) 1 1 [⟨10 * ((i : Int) + 1), q, -25567⟩] rfl rfl hr9 (by have := HLN3.out; simp; omega) hS1 ?_
      intro v' w' ho' hg' hn'
      exact hK.out _ _ (seJ.mk1 (v := v') (hJ.1.trans (Only.grown hg'.out (fun k hk => .inl hk))) rfl (hJ.2.1.same (hg'.out.block _ hJ.2.1.lt (fun e => by have := (hJ.2.2.lt e.symm).1; omega))) ho'.out) (Only.grown hg'.out (fun k hk => .inl hk)) trivial
     refine AK.sc (lim := 1) (lo := 0) rfl rfl rfl rfl ?_ ?_
     ·intro k_ u w_ hk_ hl_ hJ hF K hK
      clear hF
      go_simp
      exact hK.out _ _ (Below.refl _ _) (rfl) trivial
     refine AK.ss rfl rfl ?_ ?_
     ·intro u w_ hJ hA_ hF K hK
      have h45 : u 45 = .pointer (some ⟨s0 + 3, 3, none⟩) := AK.facts_get hF 45 (by simp)
      clear hF
      simp only [h45] at hK ⊢
      clear h45
      have hO9 := hJ.2.2 _ rfl
      obtain ⟨A9, c9, h9_, -, -⟩ := hO9.reads
      have hO9 : OwnR lyL 145 w_ (s0 + 4) (u 44) (seL i ++ [⟨10 * ((i : Int) + 1), q, -25567⟩]) := hO9
      have h9_ : u 44 = _ := h9_
      obtain ⟨n9, hn9⟩ : ∃ n, (seL i ++ [(⟨10 * ((i : Int) + 1), q, -25567⟩ : Lnk)]).length = n := ⟨_, rfl⟩
      rw [hn9] at h9_
      clear hn9
      rw [h9_] at hO9
      simp only [h9_] at hK ⊢
      have c_ := hJ.2.1.at 3 _ rfl
      have z_ := hJ.2.1.frozen 3
      go_simp
      exact hK.out undef _ (seJ.mk2 (v := u 44) (hJ.1.trans (Only.setCell _ (a := ⟨s0 + 3, 3, none⟩) (.inr rfl) _)) rfl (by rw [h9_]; exact hJ.2.1.set 3 _) (by rw [h9_]; exact hO9.blk (fun g hg => Below.heap_setCell _ _ _ _ (by have := (hO9.lt hg).1; show g ≠ s0 + 3; omega)))) (Only.setCell _ (a := ⟨s0 + 3, 3, none⟩) (.inr rfl) _) trivial
     exact AK.StepsOk.nil
    ·intro u W9 hJ9 hF
     clear hF
     have hB9 := hJ9.1
     obtain ⟨hG9, hA9⟩ := hJ9.2 _ rfl
     clear hJ9
     generalize u 44 = vl2 at *
     have HG2 : Hid (Wh 116 W9 (s0 + 3) [.string nm, .string cu, va2, vl2, .bool false]) := Lib.hid hG9
     have HV2 : Hid (OwnR lyL 145 W9 (s0 + 4) vl2 (seL (i + 1))) := Lib.hid (by rw [HJ.out]; exact hA9)
     have HA2 : Hid (OwnR lyA 118 W9 (s0 + 4) va2 (seA (i + 1))) := Lib.hid (HA.out.blk fun g hg => hB9.blk g (HA.out.lt hg).2 (fun hs => by
      rcases hs with hs | hs
      ·exact own_apart HA.out HV.out (by decide) hg hs
      ·have := (HA.out.lt hg).1; omega))
     have HB2 : Hid (Below (s0 + 3) w3 W9) := Lib.hid (HB.out.trans (hB9.below (fun k hk => by rcases hk with hk | hk; have := (HV.out.lt hk).1; omega; omega) (by have := HW1.out; omega)))
     have HW2 : Hid (s0 + 4 ≤ W9.heap.size) := Lib.hid (Nat.le_trans HW1.out hB9.size)
     clear hB9 hG9 hA9 HG HA HV HB HW1 HSW HQ3 HJ
     go_wp2_with fail
     go_roundg (14 - (i + 1))
     case measure => omega
     case rel => exact ⟨i + 1, by go_num, by omega, by omega, ⟨_, _, HG2, HA2, HV2⟩, HB2, HW2⟩
  ·obtain rfl : i = 14 := by omega
   obtain ⟨A, c, e1, -, -⟩ := HA.out.reads
   obtain ⟨B, d, e2, -, -⟩ := HV.out.reads
   rw [show (seA 14).length = 14 from rfl] at e1
   rw [show (seL 14).length = 14 from rfl] at e2
   subst e1 e2
   have HL : Hid ((Instr.loadAt 116 (.pointer (some ⟨s0 + 3, 0, none⟩))).run Tryz.prog wr = .ok (.agg #[.string nm, .string cu, .slice A 14 c, .slice B 14 d, .bool false]) wr) := Lib.hid (HG.out.rg.load 0 116 [.string nm, .string cu, .slice A 14 c, .slice B 14 d, .bool false] rfl _ Tryz.underlying116 rfl (by kernel_rfl))
   have HZ9 : Hid (Wh 116 wr s0 [.string ⟨#[]⟩, .string ⟨#[]⟩, .slice none 0 0, .slice none 0 0, .bool false]) := Lib.hid (HZ0.out.same (HB.out.block s0 (by omega)))
   have HM1 : True := trivial
   go_wp2_with (first
    | (clear HM1; refine wpList_load_is rfl 116 _ rfl (.pointer (some ⟨s0 + 3, 0, none⟩)) rfl (.agg #[.string nm, .string cu, .slice A 14 c, .slice B 14 d, .bool false]) HL.out ?_)
    | (refine wpList_store_wh rfl 116 _ _ rfl s0 (by first | rfl | (rw [← HS0.out]; rfl)) 116 [.string ⟨#[]⟩, .string ⟨#[]⟩, .slice none 0 0, .slice none 0 0, .bool false] [.string nm, .string cu, .slice A 14 c, .slice B 14 d, .bool false] rfl HZ9.out rfl (by kernel_rfl) (by kernel_rfl) ?_; intro W8 hr8 ho8 hz8))
   refine bodyPost_ret (v := .agg #[.string nm, .string cu, .slice A 14 c, .slice B 14 d, .bool false]) (results_cell_mid Tryz.results79 _ _ s0 [.string nm, .string cu, .slice A 14 c, .slice B 14 d, .bool false] _ (by first | rfl | (rw [← HS0.out]; rfl)) hr8.out.range Tryz.underlying116 rfl (by kernel_rfl)) rfl ⟨⟨A, c, B, d, rfl, ?_, ?_⟩, ?_⟩
   ·exact (HA.out.blk fun g hg => ho8.out.blk g (HA.out.lt hg).2 (by have := (HA.out.lt hg).1; show ¬ g = s0; omega)).low (by have := HS0.out; omega)
   ·exact (HV.out.blk fun g hg => ho8.out.blk g (HV.out.lt hg).2 (by have := (HV.out.lt hg).1; show ¬ g = s0; omega)).low (by have := HS0.out; omega)
   ·have h9 := (HB3.out.trans (HB.out.mono (by omega))).trans (ho8.out.below (B := s0) (fun k hk => Nat.le_of_eq hk.symm) (by have := HW1.out; omega))
    rw [HS0.out]
    exact h9
open Go.RowKit
def smpG (A : Option Addr) (c : Nat) (E : Option Addr) : Grp := ⟨⟨#[69, 85, 82]⟩, 2026, 1, 36, A, 26, c, 1500, 1600, 1700, 1200, 3100, 3200, 3300, 3400, 3500, 4500, 4600, 4700, 5500, 5600, 5700, E, 4, 4⟩
def smpN (i : Nat) : ByteArray := ([⟨#[112, 97, 114, 101, 110, 116]⟩, ⟨#[110, 111, 114, 116, 104]⟩, ⟨#[119, 101, 115, 116]⟩, ⟨#[106, 111, 105, 110, 116]⟩] : List ByteArray).getD i ⟨#[]⟩
def smpC (i : Nat) : ByteArray := ([⟨#[69, 85, 82]⟩, ⟨#[69, 85, 82]⟩, ⟨#[85, 83, 68]⟩, ⟨#[85, 83, 68]⟩] : List ByteArray).getD i ⟨#[]⟩
structure EAd where
 A : Option Addr
 c : Nat
 B : Option Addr
 d : Nat
def smpE (i : Nat) (jt : Bool) (p : EAd) : Ent := ⟨smpN i, smpC i, p.A, 14, p.c, p.B, 14, p.d, jt, seA 14, seL 14⟩
def smpEs (p0 p1 p2 p3 : EAd) : List Ent := [smpE 0 false p0, smpE 1 false p1, smpE 2 false p2, smpE 3 true p3]
set_option maxRecDepth 100000 in
theorem smp_len : smpL.length = 26 := by decide
set_option maxRecDepth 100000 in
theorem smp_ok (A : Option Addr) (c : Nat) (E : Option Addr) (p0 p1 p2 p3 : EAd) : grpP (smpG A c E) smpL (smpEs p0 p1 p2 p3) = true := by
 kernel_rfl
end Go.Proofs.YthokdplikidhiaaGreat
