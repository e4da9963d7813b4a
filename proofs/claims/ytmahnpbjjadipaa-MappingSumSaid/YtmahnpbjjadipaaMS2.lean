/- Contracts and the law of MappingSum, part 2: what was proved of each, callees first. -/
import Derived.DeepKeys5
import Derived.WalkKit
import Derived.WalkSpells
import Derived.Lib.Hide
import Derived.Deep.QuietTactic
import Derived.BigQuiet
import Derived.LoopTactic
import Derived.Lib.SmallJoins
import Derived.Shelf.SlIterI.Nil
import Derived.Shelf.SortM.Plain
import Derived.Shelf.SortM.SortNone
import Derived.Ground.GgzProg
import Derived.Ground.SlgmProg
import Derived.Shelf.SlGeneric
import Derived.Test.YtmahnpbjjadipaaProg
import Derived.Deep.RegionHeldLaw
import Derived.Deep.AppendLies
import Derived.Test.YtmahnpbjjadipaaMS1
namespace Go.Proofs.Ytmahnpbjjadipaa
def insD (d : Int) : List Int → List Int
 | [] => [d]
 | x :: l => if x < d then x :: insD d l else if x = d then x :: l else d :: x :: l
def Asc (l : List Int) : Prop := l.Pairwise (· < ·)
theorem mem_insD {d x : Int} : ∀ {l : List Int}, x ∈ insD d l ↔ x = d ∨ x ∈ l
 | [] => by simp [insD]
 | y :: l => by
  unfold insD
  split
  ·rw [List.mem_cons, mem_insD, List.mem_cons]; exact ⟨fun h => by rcases h with h | h | h <;> simp [h], fun h => by rcases h with h | h | h <;> simp [h]⟩
  ·split
   ·rename_i _ h; subst h; simp
   ·simp
theorem insD_asc {d : Int} : ∀ {l : List Int}, Asc l → Asc (insD d l)
 | [], _ => by simp [insD, Asc]
 | y :: l, h => by
  have h' := h
  unfold Asc at h'
  rw [List.pairwise_cons] at h'
  unfold insD
  split
  ·rename_i hy
   unfold Asc
   rw [List.pairwise_cons]
   exact ⟨fun z hz => by rcases mem_insD.1 hz with rfl | hz; exact hy; exact h'.1 z hz, insD_asc h'.2⟩
  ·split
   ·exact h
   ·rename_i h1 h2
    unfold Asc
    rw [List.pairwise_cons]
    refine ⟨fun z hz => ?_, h⟩
    rcases List.mem_cons.1 hz with rfl | hz
    ·omega
    ·have := h'.1 z hz; omega
theorem Asc.nodup {l : List Int} (h : Asc l) : l.Nodup := List.Pairwise.imp (fun h => by omega) h
theorem Asc.ext {l m : List Int} (h : Asc l) (h2 : Asc m) (hx : ∀ x, x ∈ l ↔ x ∈ m) : l = m :=
 List.Perm.eq_of_pairwise (le := (· < ·)) (fun a b _ _ h1 h2 => by omega) h h2 ((List.perm_ext_iff_of_nodup h.nodup h2.nodup).2 hx)
theorem insD_at {d : Int} : ∀ {l : List Int} {k : Nat}, k ≤ l.length → (∀ i, i < k → l.getD i 0 < d) → (k < l.length → d ≤ l.getD k 0) → insD d l = if k < l.length ∧ l.getD k 0 = d then l else l.take k ++ d :: l.drop k
 | [], k, hk, _, _ => by simp at hk; subst hk; simp [insD]
 | x :: l, 0, hk, _, h2 => by
  have h3 := h2 (by simp)
  simp only [List.getD_cons_zero] at h3
  unfold insD
  rw [if_neg (by omega)]
  simp
 | x :: l, k + 1, hk, h1, h2 => by
  have h3 := h1 0 (by omega)
  simp only [List.getD_cons_zero] at h3
  unfold insD
  rw [if_pos h3, insD_at (l := l) (k := k) (by simpa using hk) (fun i hi => by simpa using h1 (i + 1) (by omega)) (fun h => by simpa using h2 (by simpa using h))]
  simp only [List.length_cons, Nat.add_lt_add_iff_right, List.getD_cons_succ, List.take_succ_cons, List.drop_succ_cons, List.cons_append]
  split <;> rfl
def keysL (l : List Int) : List Int := l.foldl (fun m d => insD d m) []
theorem keysL_snoc {l : List Int} {d : Int} : keysL (l ++ [d]) = insD d (keysL l) := by unfold keysL; rw [List.foldl_append]; rfl
theorem keysL_is {l : List Int} : Asc (keysL l) ∧ ∀ x, x ∈ keysL l ↔ x ∈ l := by
 suffices h : ∀ (l m : List Int), Asc m → Asc (l.foldl (fun m d => insD d m) m) ∧ ∀ x, x ∈ l.foldl (fun m d => insD d m) m ↔ x ∈ l ∨ x ∈ m by
  have := h l [] List.Pairwise.nil
  exact ⟨this.1, fun x => by rw [keysL, this.2 x]; simp⟩
 intro l
 induction l with
 | nil => intro m hm; exact ⟨hm, fun x => by simp⟩
 | cons d l ih =>
  intro m hm
  obtain ⟨h1, h2⟩ := ih (insD d m) (insD_asc hm)
  exact ⟨h1, fun x => by rw [List.foldl_cons, h2 x, mem_insD, List.mem_cons]; exact ⟨fun h => by rcases h with h | h | h <;> simp [h], fun h => by rcases h with (h | h) | h <;> simp [h]⟩⟩
theorem keysL_ext {l m : List Int} (h : Asc m) (hx : ∀ x, x ∈ m ↔ x ∈ l) : m = keysL l := h.ext keysL_is.1 (fun x => by rw [keysL_is.2, hx])
theorem sort_asc {l : List Int} (h : l.Nodup) : Asc (l.mergeSort (fun x y => decide (x ≤ y))) := by
 have h1 := List.pairwise_mergeSort (le := fun x y : Int => decide (x ≤ y)) (fun a b c h1 h2 => by simp at *; omega) (fun a b => by simp; omega) l
 have h2 : (l.mergeSort (fun x y => decide (x ≤ y))).Nodup := (List.mergeSort_perm l _).nodup_iff.2 h
 unfold Asc
 rw [List.pairwise_iff_getElem] at h1 ⊢
 intro i j hi hj hij
 have h3 := h1 i j hi hj hij
 have h4 := (List.pairwise_iff_getElem.1 h2) i j hi hj hij
 simp at h3
 omega
theorem keysL_len {l : List Int} : (keysL l).length ≤ l.length := by
 have h := nodup_subset_len (keysL_is (l := l)).1.nodup (m := l) fun x hx => (keysL_is.2 x).1 hx
 exact h
def sumsL (P : List Bal) : List Bal := (keysL (P.map (·.acct))).map fun t => ⟨t, ofS P t⟩
theorem sumsL_len {P : List Bal} : (sumsL P).length ≤ P.length := by
 unfold sumsL
 rw [List.length_map]
 have := keysL_len (l := P.map (·.acct))
 simpa using this
theorem ofS_snoc {P : List Bal} {x : Bal} {t : Int} : ofS (P ++ [x]) t = ofS P t + if x.acct = t then x.amt else 0 := by
 rw [ofS_app]; unfold ofS; rw [sumI_cons, sumI_nil]; omega
theorem ofS_none {P : List Bal} {t : Int} (h : ∀ x ∈ P, x.acct ≠ t) : ofS P t = 0 := sumI_zero fun y hy => if_neg (h y hy)
theorem sumsL_snoc {P : List Bal} {x : Bal} {k : Nat} (hk : k ≤ (sumsL P).length) (h1 : ∀ i, i < k → ((sumsL P).getD i bal0).acct < x.acct) (h2 : k < (sumsL P).length → x.acct ≤ ((sumsL P).getD k bal0).acct) :
  sumsL (P ++ [x]) = if k < (sumsL P).length ∧ ((sumsL P).getD k bal0).acct = x.acct then (sumsL P).set k ⟨x.acct, ((sumsL P).getD k bal0).amt + x.amt⟩ else (sumsL P).take k ++ x :: (sumsL P).drop k := by
 obtain ⟨hasc, hmem⟩ := keysL_is (l := P.map (·.acct))
 have hg : ∀ i, i < (keysL (P.map (·.acct))).length → (sumsL P).getD i bal0 = ⟨(keysL (P.map (·.acct))).getD i 0, ofS P ((keysL (P.map (·.acct))).getD i 0)⟩ := by
  intro i hi
  unfold sumsL
  rw [List.getD_eq_getElem?_getD, List.getElem?_map, List.getD_eq_getElem?_getD, List.getElem?_eq_getElem hi]; rfl
 have hlen : (sumsL P).length = (keysL (P.map (·.acct))).length := by unfold sumsL; rw [List.length_map]
 have e1 : keysL ((P ++ [x]).map (·.acct)) = insD x.acct (keysL (P.map (·.acct))) := by rw [List.map_append, List.map_cons, List.map_nil, keysL_snoc]
 have e2 := insD_at (d := x.acct) (l := keysL (P.map (·.acct))) (k := k) (by omega) (fun i hi => by have := h1 i hi; rw [hg i (by omega)] at this; exact this) (fun h => by have := h2 (by omega); rw [hg k (by omega)] at this; exact this)
 have e3 : sumsL (P ++ [x]) = (insD x.acct (keysL (P.map (·.acct)))).map fun t => ⟨t, ofS (P ++ [x]) t⟩ := by unfold sumsL; rw [e1]
 rw [e3, e2]
 by_cases hc : k < (keysL (P.map (·.acct))).length ∧ (keysL (P.map (·.acct))).getD k 0 = x.acct
 ·rw [if_pos hc, if_pos ⟨by omega, by rw [hg k hc.1]; exact hc.2⟩, hg k hc.1, hc.2]
  apply List.ext_getElem
  ·simp [sumsL]
  ·intro i hi1 hi2
   have hi : i < (keysL (P.map (·.acct))).length := by simpa using hi1
   rw [List.getElem_map, List.getElem_set]
   have hki : (keysL (P.map (·.acct)))[k]'hc.1 = x.acct := by have h9 := hc.2; rw [List.getD_eq_getElem?_getD, List.getElem?_eq_getElem hc.1] at h9; exact h9
   split
   ·rename_i h; subst h
    rw [hki, ofS_snoc, if_pos rfl]
   ·rename_i h
    have hne : (keysL (P.map (·.acct)))[i]'hi ≠ x.acct := by
     intro e
     rw [← hki] at e
     exact h ((List.getElem_inj hasc.nodup).1 e).symm
    rw [ofS_snoc, if_neg (fun e => hne e.symm)]
    simp [sumsL]
 ·rw [if_neg hc, if_neg (fun h => hc ⟨by omega, by have := h.2; rw [hg k (by omega)] at this; exact this⟩)]
  have hno : x.acct ∉ keysL (P.map (·.acct)) := by
   intro hin
   obtain ⟨i, hi, hie⟩ := List.mem_iff_getElem.1 hin
   have hgi : (keysL (P.map (·.acct))).getD i 0 = x.acct := by rw [List.getD_eq_getElem?_getD, List.getElem?_eq_getElem hi]; exact hie
   rcases Nat.lt_trichotomy i k with h3 | h3 | h3
   ·have := h1 i h3; rw [hg i hi, hgi] at this; simp at this
   ·subst h3; exact hc ⟨hi, hgi⟩
   ·have h4 := h2 (by omega)
    rw [hg k (by omega)] at h4
    have h5 := (List.pairwise_iff_getElem.1 hasc) k i (by omega) hi h3
    rw [hie] at h5
    have h6 : (keysL (P.map (·.acct))).getD k 0 = (keysL (P.map (·.acct)))[k]'(by omega) := by rw [List.getD_eq_getElem?_getD, List.getElem?_eq_getElem (by omega)]; rfl
    rw [h6] at h4
    simp at h4
    omega
  have hF : ∀ t ∈ keysL (P.map (·.acct)), (⟨t, ofS (P ++ [x]) t⟩ : Bal) = ⟨t, ofS P t⟩ := by
   intro t ht
   rw [ofS_snoc, if_neg (fun e => hno (by rw [e]; exact ht))]; simp
  have h0 : ofS P x.acct = 0 := ofS_none fun y hy e => hno ((hmem _).2 (List.mem_map.2 ⟨y, hy, e⟩))
  rw [List.map_append, List.map_cons, ofS_snoc, if_pos rfl, h0]
  unfold sumsL
  rw [← List.map_take, ← List.map_drop, List.map_congr_left fun t ht => hF t (List.mem_of_mem_take ht), List.map_congr_left (l := (keysL (P.map (·.acct))).drop k) fun t ht => hF t (List.mem_of_mem_drop ht)]
  simp
def tosL (L : List Acc) (K : List Lnk) (day : Int) (b : List Bal) : List Bal := b.map fun x => ⟨atV L K x.acct day, x.amt⟩
def feE (L : List Acc) (K : List Lnk) (day : Int) : List Bal → Int
 | [] => 0
 | x :: l => if atE L K x.acct day = 0 then feE L K day l else atE L K x.acct day
theorem feE_take {L : List Acc} {K : List Lnk} {day : Int} : ∀ {b : List Bal} {k : Nat}, k < b.length → (∀ i, i < k → atE L K (b.getD i bal0).acct day = 0) → atE L K (b.getD k bal0).acct day ≠ 0 → feE L K day b = atE L K (b.getD k bal0).acct day
 | [], k, hk, _, _ => by simp at hk
 | x :: l, 0, _, _, h => by unfold feE; rw [if_neg (by simpa using h)]; rfl
 | x :: l, k + 1, hk, h1, h => by
  unfold feE
  rw [if_pos (by simpa using h1 0 (by omega)), List.getD_cons_succ]
  exact feE_take (by simpa using hk) (fun i hi => by simpa using h1 (i + 1) (by omega)) (by simpa using h)
theorem feE_zero {L : List Acc} {K : List Lnk} {day : Int} : ∀ {b : List Bal}, (∀ i, i < b.length → atE L K (b.getD i bal0).acct day = 0) → feE L K day b = 0
 | [], _ => rfl
 | x :: l, h => by
  unfold feE
  rw [if_pos (by simpa using h 0 (by simp))]
  exact feE_zero fun i hi => by simpa using h (i + 1) (by simpa using hi)
theorem feE_zero_iff {L : List Acc} {K : List Lnk} {day : Int} : ∀ {b : List Bal}, feE L K day b = 0 → ∀ x ∈ b, atE L K x.acct day = 0
 | [], _, x, hx => by cases hx
 | y :: l, h, x, hx => by
  unfold feE at h
  split at h
  ·rename_i h0
   rcases List.mem_cons.1 hx with rfl | hx
   ·exact h0
   ·exact feE_zero_iff h x hx
  ·rename_i h0; exact absurd h h0
def amtsB (l : List Bal) : Bool := l.all fun x => amtB x.amt
def moveE (L : List Acc) (K : List Lnk) (day : Int) (b : List Bal) : Int := if ascB b = true then if feE L K day b = 0 then if amtsB (sumsL (tosL L K day b)) = true then 0 else 2 else feE L K day b else 1
def moveL (L : List Acc) (K : List Lnk) (day : Int) (b : List Bal) : List Bal := if moveE L K day b = 0 then pick0 (sumsL (tosL L K day b)) else []
theorem moveE_asc {L : List Acc} {K : List Lnk} {day : Int} {b : List Bal} (h : ascB b = false) : moveE L K day b = 1 := by unfold moveE; rw [h]; rfl
theorem moveE_at {L : List Acc} {K : List Lnk} {day : Int} {b : List Bal} (h : ascB b = true) (h2 : feE L K day b ≠ 0) : moveE L K day b = feE L K day b := by unfold moveE; rw [if_pos h, if_neg h2]
theorem moveE_no {L : List Acc} {K : List Lnk} {day : Int} {b : List Bal} (h : ascB b = true) (h2 : feE L K day b = 0) (h3 : amtsB (sumsL (tosL L K day b)) = false) : moveE L K day b = 2 := by unfold moveE; rw [if_pos h, if_pos h2, h3]; rfl
theorem moveE_ok {L : List Acc} {K : List Lnk} {day : Int} {b : List Bal} (h : ascB b = true) (h2 : feE L K day b = 0) (h3 : amtsB (sumsL (tosL L K day b)) = true) : moveE L K day b = 0 := by unfold moveE; rw [if_pos h, if_pos h2, if_pos h3]
theorem moveL_ok {L : List Acc} {K : List Lnk} {day : Int} {b : List Bal} (h : moveE L K day b = 0) : moveL L K day b = pick0 (sumsL (tosL L K day b)) := by unfold moveL; rw [if_pos h]
theorem moveL_bad {L : List Acc} {K : List Lnk} {day : Int} {b : List Bal} (h : moveE L K day b ≠ 0) : moveL L K day b = [] := by unfold moveL; rw [if_neg h]
theorem moveL_len {L : List Acc} {K : List Lnk} {day : Int} {b : List Bal} : (moveL L K day b).length ≤ b.length := by
 unfold moveL
 split
 ·unfold pick0
  have h1 := List.length_filter_le (fun x : Bal => decide (x.amt ≠ 0)) (sumsL (tosL L K day b))
  have h2 := sumsL_len (P := tosL L K day b)
  have h3 : (tosL L K day b).length = b.length := by unfold tosL; rw [List.length_map]
  omega
 ·simp
def lnkB (L c : List Acc) (l : Lnk) : Bool := (fnd L l.frm).isSome && ((fnd c l.tgt).isSome && (decide ((fndA L l.frm).kind = (fndA c l.tgt).kind) && vdB l.since))
def smB (K : List Lnk) (i k : Nat) : Bool := decide ((K.getD k lnk0).frm = (K.getD i lnk0).frm) && decide ((K.getD k lnk0).since = (K.getD i lnk0).since)
def dfB (K : List Lnk) (i : Nat) : Bool := allTo (fun k => !smB K i k) i
def mvB (L : List Acc) (K : List Lnk) (c : List Acc) : Bool := vB c true && (vB L false && (decide (K.length ≤ 400) && (allTo (fun i => lnkB L c (K.getD i lnk0)) K.length && allTo (dfB K) K.length)))
open Go.RowKit Go.Maps
def MapV (w : World) (b n : Nat) (f : Int → Option Value) : Prop := ∃ D : DataW Value, w.ownsMap Try.prog 3 heldE b n D ∧ ∀ c, Maps.has D (.int .i64 c) = (f c).isSome ∧ ∀ z, D.atKey (.int .i64 c) z = (match f c with | some v => .held v | none => z)
section
variable {w w' : World} {b n m : Nat} {f : Int → Option Value}
theorem MapV.blk (h : MapV w b n f) (hk : w'.heap[b]? = w.heap[b]?) : MapV w' b n f := by
 obtain ⟨D, ⟨es, clock, hb, rest⟩, h2⟩ := h
 exact ⟨D, ⟨es, clock, hk.trans hb, rest⟩, h2⟩
theorem MapV.lt (h : MapV w b n f) : b < w.heap.size := by
 obtain ⟨D, h1, _⟩ := h
 exact h1.lt
theorem MapV.up (h : MapV w b n f) (hb : Below w.heap.size w w') : MapV w' b n f := h.blk (hb.block b h.lt)
theorem MapV.made (w : World) : MapV (w.alloc (.map #[] 0)) w.heap.size 0 (fun _ => none) :=
 ⟨.map [], World.ownsMap_made _ _ _ _, fun _ => ⟨rfl, fun _ => rfl⟩⟩
end
theorem wpList_mapv_look {w : World} {ops : Array Oper} {rest : List Oper} {o : Oper} {a : Act} {Q : Exit → Act → World → Prop} (hg : o.guard = none) (m x : Operand) (t e : TypeId) (hop : o.op = Op.lookup t m x false)
  (ht : Try.prog.underlying t = some (.map 3 e)) {zv : Value} (hz : ∀ w : World, (zeroValue e).run Try.prog w = .ok zv w)
  (b n : Nat) (f : Int → Option Value) (hm : a.eval m = .map (some b)) (hs : MapV w b n f) (c : Int) (hx : a.eval x = .int .i64 c) (hw : (Lit.int .i64 c).wf = true)
  (hK : wpList Try.prog ops Q rest (a.put o.dst ((f c).getD zv)) w) : wpList Try.prog ops Q (o :: rest) a w := by
 obtain ⟨D, h1, h3⟩ := hs
 refine wpList_plain hg fun K' hK' => ?_
 obtain ⟨v, ps, hrun, hv⟩ := h1.lookup ti_keyed ht (hz w) (zd := .held zv) (zp := []) rfl (keyOf_int_mk Try.underlying3 hw)
 have he : v = (f c).getD zv := by
  rw [(h3 c).2] at hv
  simp only [heldE, Option.some.injEq, Prod.mk.injEq] at hv
  have h4 := hv.1
  cases hf : f c with
  | none => rw [hf] at h4; injection h4
  | some u => rw [hf] at h4; injection h4
 unfold Oper.wp
 simp [execOp, hop, hm, hx, hrun, Result.andThen]
 exact hK' _ _ (he ▸ hK)
theorem wpList_mapv_put {w : World} {ops : Array Oper} {rest : List Oper} {o : Oper} {a : Act} {Q : Exit → Act → World → Prop} (hg : o.guard = none) (m x y : Operand) (t e : TypeId) (hop : o.op = Op.mapUpdate t m x y)
  (ht : Try.prog.underlying t = some (.map 3 e))
  (b n : Nat) (f : Int → Option Value) (hm : a.eval m = .map (some b)) (hs : MapV w b n f) (c : Int) (hx : a.eval x = .int .i64 c) (v : Value) (hy : a.eval y = v) (hw : (Lit.int .i64 c).wf = true) (hn : n ≤ 1000000)
  (hK : ∀ w', Hid (MapV w' b (n + 1) (fun x => if x = c then some v else f x)) → Hid (w.grownBy w' (some b)) → wpList Try.prog ops Q rest (a.put o.dst undef) w') : wpList Try.prog ops Q (o :: rest) a w := by
 obtain ⟨D, h1, h3⟩ := hs
 have h2 := h1.isMap
 refine wpList_mapUpdate_own w hg m x y t hop 3 e ti_keyed ht heldE b n D hm h1 (by unfold maxLen; omega) _ _ _ hx hy (keyOf_int_mk Try.underlying3 hw) (.held v) [] rfl ?_
 intro w' h4 h5
 refine hK w' (Lib.hid ⟨_, h4, fun x => ?_⟩) (Lib.hid h5)
 have hkl : ∀ z : Int, WideAt.IsKeyLit (Lit.int .i64 z) := fun z => by simp [WideAt.IsKeyLit]
 by_cases hxc : x = c
 ·subst hxc
  simp only [if_true]
  exact ⟨by rw [has_put_same h2 (hkl _)]; rfl, fun z => atKey_put_same h2 (hkl _) _ _⟩
 ·simp only [if_neg hxc]
  have hne : Lit.int .i64 x ≠ Lit.int .i64 c := fun e => hxc (by injection e)
  refine ⟨by rw [has_put_other hne]; exact (h3 x).1, fun z => ?_⟩
  rw [atKey_put_other hne]
  exact (h3 x).2 z
open Go.RowKit
theorem rvd_any (n : Int) (w : World) : Calls Try.prog 27 #[.int .i64 n] w fun e w' => e = .returned (.bool (vdB n)) ∧ w = w' := by
 unfold vdB
 by_cases h1 : (-25567 : Int) ≤ n
 ·rw [decide_eq_true h1]
  go_enter Try.func27, Try.ntmps27
  go_wp2
  go_ret
  exact ⟨rfl, rfl⟩
 ·rw [decide_eq_false h1]
  have h3 : decide ((-25567 : Int) ≤ n) = false := decide_eq_false h1
  clear h1
  go_enter Try.func27, Try.ntmps27
  go_wp2
  go_ret
  exact ⟨rfl, rfl⟩
theorem sum_one {z : Int} {t : Int} : ∀ {l : List Int}, l.Nodup → t ∈ l → sumI l (fun s => if t = s then z else 0) = z
 | [], _, h => by cases h
 | x :: l, hn, h => by
  rw [List.nodup_cons] at hn
  rw [sumI_cons]
  rcases List.mem_cons.1 h with rfl | h
  ·rw [if_pos rfl, sumI_zero (fun y hy => if_neg (fun e => hn.1 (by rw [e]; exact hy)))]; omega
  ·rw [if_neg (fun e => hn.1 (by rw [← e]; exact h)), sum_one hn.2 h]; omega
theorem sumsL_sum {P : List Bal} {h : Int → Bool} : sumI (sumsL P) (fun x => if h x.acct = true then x.amt else 0) = sumI P (fun x => if h x.acct = true then x.amt else 0) := by
 obtain ⟨hasc, hmem⟩ := keysL_is (l := P.map (·.acct))
 unfold sumsL
 rw [sumI_map]
 have e1 : sumI (keysL (P.map (·.acct))) (fun t => if h t = true then ofS P t else 0) = sumI (keysL (P.map (·.acct))) (fun t => sumI P (fun y => if y.acct = t then (if h y.acct = true then y.amt else 0) else 0)) := by
  refine sumI_congr fun t _ => ?_
  unfold ofS
  by_cases ht : h t = true
  ·rw [if_pos ht]
   refine sumI_congr fun y _ => ?_
   by_cases hy : y.acct = t
   ·rw [if_pos hy, if_pos hy, hy, if_pos ht]
   ·rw [if_neg hy, if_neg hy]
  ·rw [if_neg ht, sumI_zero]
   intro y _
   by_cases hy : y.acct = t
   ·rw [if_pos hy, hy, if_neg ht]
   ·rw [if_neg hy]
 rw [show (fun x : Int => if h x = true then ofS P x else 0) = fun t => if h t = true then ofS P t else 0 from rfl, e1, sumI_swap]
 refine sumI_congr fun y hy => ?_
 exact sum_one hasc.nodup ((hmem _).2 (List.mem_map.2 ⟨y, hy, rfl⟩))
theorem pick0_sum {l : List Bal} {h : Int → Bool} : sumI (pick0 l) (fun x => if h x.acct = true then x.amt else 0) = sumI l (fun x => if h x.acct = true then x.amt else 0) := by
 unfold pick0
 rw [sumI_filter]
 refine sumI_congr fun y _ => ?_
 by_cases hy : y.amt = 0
 ·rw [if_neg (by simp [hy])]; split <;> simp [hy]
 ·rw [if_pos (by simp [hy])]
def kinOf (L : List Acc) (k : Int) (c : Int) : Bool := decide (k = 0) || ((fnd L c).isSome && decide ((fndA L c).kind = k))
def kinS (L : List Acc) (b : List Bal) (k : Int) : Int := sumI b (fun x => if kinOf L k x.acct = true then x.amt else 0)
theorem kinS_take {L : List Acc} {b : List Bal} {k : Int} {i : Nat} (hi : i < b.length) : kinS L (b.take (i + 1)) k = kinS L (b.take i) k + if kinOf L k (b.getD i bal0).acct = true then (b.getD i bal0).amt else 0 := by
 unfold kinS
 rw [take_succ_getD (d := bal0) hi, sumI_app, sumI_cons, sumI_nil]; omega
theorem kinS_bound {L : List Acc} {k : Int} : ∀ {b : List Bal}, (∀ x ∈ b, amtB x.amt = true) → -(b.length * 1000000000000 : Int) ≤ kinS L b k ∧ kinS L b k ≤ b.length * 1000000000000
 | [], _ => by simp [kinS, sumI]
 | x :: l, h => by
  have ih := kinS_bound (L := L) (k := k) (b := l) (fun y hy => h y (List.mem_cons_of_mem _ hy))
  have hx := amtB_is.1 (h x (List.mem_cons_self ..))
  unfold kinS at ih ⊢
  rw [sumI_cons, List.length_cons]
  split <;> omega
theorem atO_mem {K : List Lnk} {code day : Int} {l : Lnk} (h : atO K code day = some l) : l ∈ K ∧ l.frm = code ∧ l.since ≤ day := by
 have key : ∀ (K : List Lnk) (o : Option Lnk), K.foldl (atStep code day) o = some l → (l ∈ K ∧ l.frm = code ∧ l.since ≤ day) ∨ o = some l := by
  intro K
  induction K with
  | nil => intro o h; exact .inr h
  | cons x K ih =>
   intro o h
   rw [List.foldl_cons] at h
   rcases ih _ h with ⟨h1, h2⟩ | h1
   ·exact .inl ⟨List.mem_cons_of_mem _ h1, h2⟩
   ·unfold atStep at h1
    split at h1
    ·rename_i hh
     cases h1
     unfold atHit at hh
     simp only [Bool.and_eq_true, decide_eq_true_eq] at hh
     exact .inl ⟨List.mem_cons_self .., hh.1, hh.2.1⟩
    ·exact .inr h1
 rcases key K none h with h | h
 ·exact h
 ·cases h
theorem atE_zero {L : List Acc} {K : List Lnk} {code day : Int} (h : atE L K code day = 0) : ∃ a l, fnd L code = some a ∧ atO K code day = some l ∧ atV L K code day = l.tgt := by
 unfold atE at h
 unfold atV
 split at h
 ·rename_i hv
  split at h
  ·rename_i hs
   obtain ⟨a, ha⟩ := Option.isSome_iff_exists.1 hs
   split at h
   ·cases h
   ·rename_i l hl
    exact ⟨a, l, ha, hl, by rw [if_pos hv, if_pos hs]⟩
  ·cases h
 ·cases h
structure Mapped (L : List Acc) (K : List Lnk) (c : List Acc) : Prop where
 chart : vB c true = true
 own : vB L false = true
 few : K.length ≤ 400
 lnk : ∀ l ∈ K, lnkB L c l = true
 dst : K.Pairwise fun x y => ¬ (x.frm = y.frm ∧ x.since = y.since)
theorem mvB_is {L : List Acc} {K : List Lnk} {c : List Acc} : mvB L K c = true ↔ Mapped L K c := by
 unfold mvB
 simp only [Bool.and_eq_true, decide_eq_true_eq]
 constructor
 ·rintro ⟨h1, h2, h3, h4, h5⟩
  refine ⟨h1, h2, h3, fun l hl => ?_, ?_⟩
  ·obtain ⟨i, hi, rfl⟩ := mem_getD_acc (d := lnk0) hl
   exact allTo_is.1 h4 i hi
  ·rw [List.pairwise_iff_getElem]
   intro i j hi hj hij
   have h6 := allTo_is.1 h5 j hj
   unfold dfB at h6
   have h7 := allTo_is.1 h6 i hij
   unfold smB at h7
   rw [List.getD_eq_getElem?_getD, List.getElem?_eq_getElem hi, List.getD_eq_getElem?_getD, List.getElem?_eq_getElem hj] at h7
   rintro ⟨e1, e2⟩
   simp [e1, e2] at h7
 ·rintro ⟨h1, h2, h3, h4, h5⟩
  refine ⟨h1, h2, h3, allTo_is.2 fun i hi => h4 _ (getD_mem_acc hi), allTo_is.2 fun j hj => ?_⟩
  unfold dfB
  refine allTo_is.2 fun i hij => ?_
  have h6 := (List.pairwise_iff_getElem.1 h5) i j (by omega) hj hij
  unfold smB
  rw [List.getD_eq_getElem?_getD, List.getElem?_eq_getElem (by omega : i < K.length), List.getD_eq_getElem?_getD, List.getElem?_eq_getElem hj]
  rcases Decidable.not_and_iff_or_not.1 h6 with e | e
  ·simp [e]
  ·simp [e]
theorem lnkB_is {L c : List Acc} {l : Lnk} (h : lnkB L c l = true) : ∃ a b, fnd L l.frm = some a ∧ fnd c l.tgt = some b ∧ a.kind = b.kind := by
 unfold lnkB at h
 simp only [Bool.and_eq_true, decide_eq_true_eq] at h
 obtain ⟨h1, h2, h3, -⟩ := h
 obtain ⟨a, ha⟩ := Option.isSome_iff_exists.1 h1
 obtain ⟨b, hb⟩ := Option.isSome_iff_exists.1 h2
 refine ⟨a, b, ha, hb, ?_⟩
 unfold fndA at h3
 rw [ha, hb] at h3
 exact h3
theorem kin_moves {L : List Acc} {K : List Lnk} {c : List Acc} (h : Mapped L K c) {code day k : Int} (he : atE L K code day = 0) : kinOf c k (atV L K code day) = kinOf L k code := by
 obtain ⟨a, l, ha, hl, hv⟩ := atE_zero he
 obtain ⟨hm, hf, -⟩ := atO_mem hl
 obtain ⟨a', b, ha', hb, hk⟩ := lnkB_is (h.lnk l hm)
 rw [hf, ha] at ha'
 cases ha'
 unfold kinOf fndA
 rw [hv, hb, ha]
 show (decide (k = 0) || (true && decide (b.kind = k))) = (decide (k = 0) || (true && decide (a.kind = k)))
 rw [hk]
theorem moves_sum {L : List Acc} {K : List Lnk} {c : List Acc} {day : Int} {b : List Bal} (h : Mapped L K c) (he : moveE L K day b = 0) (k : Int) : kinS c (moveL L K day b) k = kinS L b k := by
 rw [moveL_ok he]
 have hf : feE L K day b = 0 := by
  unfold moveE at he
  split at he
  ·split at he
   ·assumption
   ·exact he
  ·cases he
 have h2 := feE_zero_iff hf
 unfold kinS
 rw [pick0_sum (h := kinOf c k), sumsL_sum (h := kinOf c k)]
 unfold tosL
 rw [sumI_map]
 refine sumI_congr fun x hx => ?_
 show (if kinOf c k (atV L K x.acct day) = true then x.amt else 0) = _
 rw [kin_moves h (h2 x hx)]
theorem moveE_amts {L : List Acc} {K : List Lnk} {day : Int} {b : List Bal} (he : moveE L K day b = 0) : (∀ x ∈ b, amtB x.amt = true) ∧ ∀ x ∈ moveL L K day b, amtB x.amt = true := by
 rw [moveL_ok he]
 unfold moveE at he
 split at he
 ·rename_i ha
  split at he
  ·split at he
   ·rename_i hs
    refine ⟨fun x hx => ?_, fun x hx => ?_⟩
    ·obtain ⟨i, hi, rfl⟩ := mem_getD_acc (d := bal0) hx
     have h1 := allTo_is.1 ha i hi
     unfold ascP at h1
     simp only [Bool.and_eq_true] at h1
     exact h1.2
    ·unfold pick0 at hx
     exact List.all_eq_true.1 hs x (List.mem_filter.1 hx).1
   ·cases he
  ·rename_i h; exact absurd he h
 ·cases he
theorem atO_same {K M : List Lnk} {code d1 d2 : Int} (h : fltL code d1 K = fltL code d2 M) : atO K code d1 = atO M code d2 := by rw [atO_flt, atO_flt, h]
theorem fnd_part {L : List Acc} {c : Int} : fnd (L.filter fun a => decide (a.code = c)) c = fnd L c := by
 unfold fnd
 rw [List.find?_filter]
 congr 1
 funext a
 simp
theorem flt_part {K : List Lnk} {c day : Int} : fltL c day (K.filter fun l => decide (l.frm = c)) = fltL c day K := by
 unfold fltL
 rw [List.filter_filter]
 congr 1
 funext l
 by_cases h : l.frm = c <;> simp [h]
theorem at_part {L : List Acc} {K : List Lnk} {c day : Int} : atV (L.filter fun a => decide (a.code = c)) (K.filter fun l => decide (l.frm = c)) c day = atV L K c day ∧ atE (L.filter fun a => decide (a.code = c)) (K.filter fun l => decide (l.frm = c)) c day = atE L K c day := by
 unfold atV atE
 rw [fnd_part, atO_same flt_part]
 exact ⟨rfl, rfl⟩
open Go.RowKit Go.Maps
abbrev nilV : Value := .slice none 0 0
abbrev entP (va vb : Value) : Value := .agg #[.string ⟨#[]⟩, .string ⟨#[]⟩, va, vb, .bool false]
def accC (L : List Acc) (c : Int) : List Acc := L.filter fun a => decide (a.code = c)
def lnkC (K : List Lnk) (c : Int) : List Lnk := K.filter fun l => decide (l.frm = c)
theorem accC_same {L : List Acc} {x : Acc} : accC (L ++ [x]) x.code = accC L x.code ++ [x] := by unfold accC; rw [List.filter_append]; simp
theorem accC_other {L : List Acc} {x : Acc} {c : Int} (h : ¬ c = x.code) : accC (L ++ [x]) c = accC L c := by unfold accC; rw [List.filter_append]; simp; omega
theorem lnkC_same {L : List Lnk} {x : Lnk} : lnkC (L ++ [x]) x.frm = lnkC L x.frm ++ [x] := by unfold lnkC; rw [List.filter_append]; simp
theorem lnkC_other {L : List Lnk} {x : Lnk} {c : Int} (h : ¬ c = x.frm) : lnkC (L ++ [x]) c = lnkC L c := by unfold lnkC; rw [List.filter_append]; simp; omega
theorem accC_len {L : List Acc} {c : Int} : (accC L c).length ≤ L.length := List.length_filter_le _ _
theorem lnkC_len {L : List Lnk} {c : Int} : (lnkC L c).length ≤ L.length := List.length_filter_le _ _
theorem nil_block {g : Nat} : nilV.ownBlock = some g → False := fun h => by cases h
structure Fam (w : World) (base : Nat) (GA GB : Int → Value) (L : List Acc) (K : List Lnk) : Prop where
 a : ∀ c, OwnA 50 w base (GA c) (accC L c)
 b : ∀ c, OwnL 46 w base (GB c) (lnkC K c)
 aa : ∀ c c' g, (GA c).ownBlock = some g → (GA c').ownBlock = some g → c = c'
 bb : ∀ c c' g, (GB c).ownBlock = some g → (GB c').ownBlock = some g → c = c'
 ab : ∀ c c' g, (GA c).ownBlock = some g → (GB c').ownBlock = some g → False
section
variable {w wb w2 w4 : World} {base mb : Nat} {GA GB : Int → Value} {L : List Acc} {K : List Lnk} {v : Value}
theorem Fam.none : Fam w base (fun _ => nilV) (fun _ => nilV) [] [] :=
 ⟨fun _ => OwnA.nil, fun _ => OwnL.nil, fun _ _ _ h => (nil_block h).elim, fun _ _ _ h => (nil_block h).elim, fun _ _ _ h => (nil_block h).elim⟩
theorem Fam.up (h : Fam w base GA GB L K) (hb : Below w.heap.size w w2) : Fam w2 base GA GB L K :=
 ⟨fun c => (h.a c).up hb, fun c => (h.b c).up hb, h.aa, h.bb, h.ab⟩
theorem Fam.roundA {x : Acc} (h : Fam w base GA GB L K) (h1 : Below w.heap.size w wb) (hsz : wb.heap.size = w.heap.size + 2) (hg : wb.grownBy w2 (GA x.code).ownBlock)
  (hown : OwnA 50 w2 base v (accC L x.code ++ [x])) (hl : v.ownBlock = (GA x.code).ownBlock ∨ v.ownBlock = some (wb.heap.size + 1))
  (h4 : ∀ g, g < w2.heap.size → g ≠ w.heap.size + 1 → g ≠ mb → w4.heap[g]? = w2.heap[g]?) (hmb : mb < base) : Fam w4 base (fun c => if c = x.code then v else GA c) GB (L ++ [x]) K := by
 have hv : ∀ g, v.ownBlock = some g → ((GA x.code).ownBlock = some g ∧ g < w.heap.size) ∨ g = w.heap.size + 3 := fun g hgv => by
  rcases hl with e | e
  ·rw [hgv] at e; exact .inl ⟨e.symm, ((h.a x.code).lt e.symm).2⟩
  ·rw [hgv] at e; injection e with e; exact .inr (by omega)
 have old : ∀ g, base ≤ g → g < w.heap.size → (GA x.code).ownBlock ≠ some g → w4.heap[g]? = w.heap[g]? := fun g hb hlt hne => by
  rw [h4 g (by have := hg.size; omega) (by omega) (by omega), hg.block g (by omega) (fun e => hne e.symm), h1.block g hlt]
 refine ⟨fun c => ?_, fun c => ?_, fun c c' g => ?_, h.bb, fun c c' g => ?_⟩
 ·by_cases hc : c = x.code
  ·subst hc
   simp only [if_true]
   rw [accC_same]
   refine hown.blk fun g hgv => ?_
   have h6 := hown.lt hgv
   exact h4 g h6.2 (by rcases hv g hgv with h7 | h7 <;> omega) (by omega)
  ·simp only [if_neg hc]
   rw [accC_other hc]
   refine (h.a c).blk fun g hgv => ?_
   have h6 := (h.a c).lt hgv
   exact old g h6.1 h6.2 fun e => hc (h.aa c x.code g hgv e)
 ·refine (h.b c).blk fun g hgv => ?_
  have h6 := (h.b c).lt hgv
  exact old g h6.1 h6.2 fun e => h.ab x.code c g e hgv
 ·by_cases hc : c = x.code
  ·by_cases hc' : c' = x.code
   ·intro _ _; rw [hc, hc']
   ·simp only [if_pos hc, if_neg hc']
    intro e1 e2
    rcases hv g e1 with h7 | h7
    ·exact absurd (h.aa _ _ _ e2 h7.1) hc'
    ·have := (h.a c').lt e2; omega
  ·by_cases hc' : c' = x.code
   ·simp only [if_neg hc, if_pos hc']
    intro e1 e2
    rcases hv g e2 with h7 | h7
    ·exact absurd (h.aa _ _ _ e1 h7.1) hc
    ·have := (h.a c).lt e1; omega
   ·simp only [if_neg hc, if_neg hc']
    exact h.aa c c' g
 ·by_cases hc : c = x.code
  ·simp only [if_pos hc]
   intro e1 e2
   rcases hv g e1 with h7 | h7
   ·exact h.ab _ _ _ h7.1 e2
   ·have := (h.b c').lt e2; omega
  ·simp only [if_neg hc]
   exact h.ab c c' g
theorem Fam.roundB {x : Lnk} (h : Fam w base GA GB L K) (h1 : Below w.heap.size w wb) (hsz : wb.heap.size = w.heap.size + 2) (hg : wb.grownBy w2 (GB x.frm).ownBlock)
  (hown : OwnL 46 w2 base v (lnkC K x.frm ++ [x])) (hl : v.ownBlock = (GB x.frm).ownBlock ∨ v.ownBlock = some (wb.heap.size + 1))
  (h4 : ∀ g, g < w2.heap.size → g ≠ w.heap.size + 1 → g ≠ mb → w4.heap[g]? = w2.heap[g]?) (hmb : mb < base) : Fam w4 base GA (fun c => if c = x.frm then v else GB c) L (K ++ [x]) := by
 have hv : ∀ g, v.ownBlock = some g → ((GB x.frm).ownBlock = some g ∧ g < w.heap.size) ∨ g = w.heap.size + 3 := fun g hgv => by
  rcases hl with e | e
  ·rw [hgv] at e; exact .inl ⟨e.symm, ((h.b x.frm).lt e.symm).2⟩
  ·rw [hgv] at e; injection e with e; exact .inr (by omega)
 have old : ∀ g, base ≤ g → g < w.heap.size → (GB x.frm).ownBlock ≠ some g → w4.heap[g]? = w.heap[g]? := fun g hb hlt hne => by
  rw [h4 g (by have := hg.size; omega) (by omega) (by omega), hg.block g (by omega) (fun e => hne e.symm), h1.block g hlt]
 refine ⟨fun c => ?_, fun c => ?_, h.aa, fun c c' g => ?_, fun c c' g => ?_⟩
 ·refine (h.a c).blk fun g hgv => ?_
  have h6 := (h.a c).lt hgv
  exact old g h6.1 h6.2 fun e => h.ab c x.frm g hgv e
 ·by_cases hc : c = x.frm
  ·subst hc
   simp only [if_true]
   rw [lnkC_same]
   refine hown.blk fun g hgv => ?_
   have h6 := hown.lt hgv
   exact h4 g h6.2 (by rcases hv g hgv with h7 | h7 <;> omega) (by omega)
  ·simp only [if_neg hc]
   rw [lnkC_other hc]
   refine (h.b c).blk fun g hgv => ?_
   have h6 := (h.b c).lt hgv
   exact old g h6.1 h6.2 fun e => hc (h.bb c x.frm g hgv e)
 ·by_cases hc : c = x.frm
  ·by_cases hc' : c' = x.frm
   ·intro _ _; rw [hc, hc']
   ·simp only [if_pos hc, if_neg hc']
    intro e1 e2
    rcases hv g e1 with h7 | h7
    ·exact absurd (h.bb _ _ _ e2 h7.1) hc'
    ·have := (h.b c').lt e2; omega
  ·by_cases hc' : c' = x.frm
   ·simp only [if_neg hc, if_pos hc']
    intro e1 e2
    rcases hv g e2 with h7 | h7
    ·exact absurd (h.bb _ _ _ e1 h7.1) hc
    ·have := (h.b c).lt e1; omega
   ·simp only [if_neg hc, if_neg hc']
    exact h.bb c c' g
 ·by_cases hc : c' = x.frm
  ·simp only [if_pos hc]
   intro e1 e2
   rcases hv g e2 with h7 | h7
   ·exact h.ab _ _ _ e1 h7.1
   ·have := (h.a c).lt e1; omega
  ·simp only [if_neg hc]
   exact h.ab c c' g
end
structure PI (w : World) (mb base n : Nat) (f : Int → Option Value) (GA GB : Int → Value) (L : List Acc) (K : List Lnk) : Prop where
 map : MapV w mb n f
 fam : Fam w base GA GB L K
 val : ∀ c, (f c).getD (entP nilV nilV) = entP (GA c) (GB c)
theorem PI.up {w w2 : World} {mb base n : Nat} {f : Int → Option Value} {GA GB : Int → Value} {L : List Acc} {K : List Lnk} (h : PI w mb base n f GA GB L K) (hb : Below w.heap.size w w2) : PI w2 mb base n f GA GB L K :=
 ⟨h.map.up hb, h.fam.up hb, h.val⟩
theorem ent_zero (w : World) : (zeroValue 25).run Try.prog w = .ok (entP nilV nilV) w := by kernel_rfl
theorem sum_zero (w : World) : (zeroValue 73).run Try.prog w = .ok (.agg #[.int .i64 0, .int .i64 0]) w := by kernel_rfl
structure EF (w : World) (g : Nat) (nm cur : ByteArray) (A : Option Addr) (n c : Nat) (B : Option Addr) (m d : Nat) (jt : Bool) : Prop where
 cells : EB w g nm cur A n c B m d jt
 fz : ∀ i, w.frozen? ⟨g, i, none⟩ = false
theorem ef_new (w : World) (t : TypeId) (nm cur : ByteArray) (A : Option Addr) (n c : Nat) (B : Option Addr) (m d : Nat) (jt : Bool) :
  EF (w.alloc (.cells #[.string nm, .string cur, .slice A n c, .slice B m d, .bool jt] t)) w.heap.size nm cur A n c B m d jt :=
 ⟨eb_new w t nm cur A n c B m d jt, fun i => by simp only [World.frozen?]; rw [heap_alloc_new]; simp⟩
theorem EB.blk {w w' : World} {g : Nat} {nm cur : ByteArray} {A : Option Addr} {n c : Nat} {B : Option Addr} {m d : Nat} {jt : Bool} (h : EB w g nm cur A n c B m d jt) (hk : w'.heap[g]? = w.heap[g]?) : EB w' g nm cur A n c B m d jt := by
 refine ⟨(World.cell?_of_block hk).trans h.c0, (World.cell?_of_block hk).trans h.c1, (World.cell?_of_block hk).trans h.c2, (World.cell?_of_block hk).trans h.c3, (World.cell?_of_block hk).trans h.c4, ?_⟩
 have hlt := h.lt
 rcases Nat.lt_or_ge g w'.heap.size with h1 | h1
 ·exact h1
 ·rw [Array.getElem?_eq_none h1, Array.getElem?_eq_getElem hlt] at hk; cases hk
theorem EF.blk {w w' : World} {g : Nat} {nm cur : ByteArray} {A : Option Addr} {n c : Nat} {B : Option Addr} {m d : Nat} {jt : Bool} (h : EF w g nm cur A n c B m d jt) (hk : w'.heap[g]? = w.heap[g]?) : EF w' g nm cur A n c B m d jt :=
 ⟨h.cells.blk hk, fun i => (World.frozen?_of_block (a := ⟨g, i, none⟩) hk).trans (h.fz i)⟩
theorem LB.blk {w w' : World} {g : Nat} {l : Lnk} (h : LB w g l) (hk : w'.heap[g]? = w.heap[g]?) : LB w' g l := by
 refine ⟨⟨(World.cell?_of_block hk).trans h.cells.c0, (World.cell?_of_block hk).trans h.cells.c1, (World.cell?_of_block hk).trans h.cells.c2⟩, ?_⟩
 have hlt := h.lt
 rcases Nat.lt_or_ge g w'.heap.size with h1 | h1
 ·exact h1
 ·rw [Array.getElem?_eq_none h1, Array.getElem?_eq_getElem hlt] at hk; cases hk
open Go.ChangeShapes Go.WideShapes Go.ChangeAt Go.WideMaps Go.WideElems Go.RowKit Go.Deep Go.Joins
section
variable {H : Type} {enc : TypeId × Value → H} {P : Program} {W : World}
theorem open_wbals {T E I : TypeId} {f0 f1 : Field} {fuel : Nat} {cs : List Value} {x : DataW H × List MemPlace} (hT : P.underlying T = some (.slice E)) (hE : P.underlying E = some (.struct #[f0, f1]))
  (hone : oneCellFields P #[f0, f1] = true) (hC : P.cellsOf E = 2) (hty : ([f0, f1].all fun f => f.type == I) = true) (hI : P.underlying I = some (.int .i64))
  (hf : DataW.trod enc P W 0 (fun _ => true) true fuel T cs = some x) :
  ∃ A len cap b, cs = [.slice A len cap] ∧ b.length = len ∧ len ≤ 9223372036854775807 ∧ BalAt W A b ∧ ∀ y ∈ b, (Lit.int .i64 y.acct).wf = true := by
 obtain ⟨A, len, cap, rfl, hmax, X, hX⟩ := open_wrows hT hE hone hC hty hI (by simp) hf
 have hg : ∀ i, i < len → ((List.range len).map fun k => (⟨X k 0, X k 1⟩ : Bal)).getD i bal0 = ⟨X i 0, X i 1⟩ := fun i hi2 => by
  rw [List.getD_eq_getElem?_getD, List.getElem?_map, List.getElem?_range hi2]; rfl
 refine ⟨A, len, cap, (List.range len).map fun k => ⟨X k 0, X k 1⟩, rfl, by simp, hmax, fun h0 => ?_, fun a ha => ?_⟩
 ·obtain ⟨b, off, e, hlt, hc⟩ := hX (by simpa using h0)
  refine ⟨b, off, e, hlt, fun i hi => ?_⟩
  have hi2 : i < len := by simpa using hi
  rw [hg i hi2]
  exact ⟨(hc i hi2 0 (by simp)).1, (hc i hi2 1 (by simp)).1⟩
 ·obtain ⟨k, hk, rfl⟩ := List.mem_map.1 ha
  have hk2 : k < len := by simpa using hk
  obtain ⟨b, off, e, hlt, hc⟩ := hX (by omega)
  exact (hc k hk2 0 (by simp)).2
end
section
variable {H : Type} {enc : TypeId × Value → H} {W : World}
set_option maxRecDepth 100000 in
theorem open_ient {b0 : Nat} {v : Value} {d : DataW H} {p : List MemPlace} (hval : Value.okWide Try.prog W .any b0 25 v) (h : DataW.Trod enc Try.prog W 0 (fun _ => true) true 25 v d p) :
  ∃ nm cur A n c L B m d K jt, v = entV nm cur A n c B m d jt ∧ EntK W A n L B m K := by
 obtain ⟨cs, rfl, hsz⟩ := okWide_struct Try.underlying25 hval
 obtain ⟨fuel, hf⟩ := h
 obtain ⟨nm, cur, A, n, c, L, B, m, d, K, jt, hcs, hk⟩ := open_entC hf
 refine ⟨nm, cur, A, n, c, L, B, m, d, K, jt, ?_, hk⟩
 have h2 : cs.toList = [.string nm, .string cur, .slice A n c, .slice B m d, .bool jt] := by simpa [Value.cells] using hcs
 rw [entV, ← Array.toArray_toList (xs := cs), h2]
set_option maxRecDepth 100000 in
theorem open_waccV {b0 : Nat} {v : Value} {d : DataW H} {p : List MemPlace} (hval : Value.okWide Try.prog W .any b0 22 v) (h : DataW.Trod enc Try.prog W 0 (fun _ => true) true 22 v d p) :
  ∃ A len cap L, v = .slice A len cap ∧ L.length = len ∧ AccAt W A L ∧ WfC L := by
 obtain ⟨a0, len0, cap0, rfl⟩ := okWide_slice Try.underlying22 hval
 obtain ⟨fuel, hf⟩ := h
 obtain ⟨A, n, c, L, q2, ln, -, hz, wa⟩ := open_waccs Try.underlying22 Try.underlying50 (by kernel_rfl) (by kernel_rfl) (by kernel_rfl) Try.underlying3 hf
 simp [Value.cells] at q2
 obtain ⟨rfl, rfl, rfl⟩ := q2
 exact ⟨_, _, _, L, rfl, ln, hz, wa⟩
set_option maxRecDepth 100000 in
theorem open_wbalV {b0 : Nat} {v : Value} {d : DataW H} {p : List MemPlace} (hval : Value.okWide Try.prog W .any b0 36 v) (h : DataW.Trod enc Try.prog W 0 (fun _ => true) true 36 v d p) :
  ∃ A len cap b, v = .slice A len cap ∧ b.length = len ∧ BalAt W A b ∧ ∀ y ∈ b, (Lit.int .i64 y.acct).wf = true := by
 obtain ⟨a0, len0, cap0, rfl⟩ := okWide_slice Try.underlying36 hval
 obtain ⟨fuel, hf⟩ := h
 obtain ⟨A, n, c, b, q2, ln, -, hz, wb⟩ := open_wbals Try.underlying36 Try.underlying71 (by kernel_rfl) (by kernel_rfl) (by kernel_rfl) Try.underlying3 hf
 simp [Value.cells] at q2
 obtain ⟨rfl, rfl, rfl⟩ := q2
 exact ⟨_, _, _, b, rfl, ln, hz, wb⟩
end
open Go.RowKit
def BestAt (links : List Lnk) (o : Option Lnk) (z : Int) : Prop := (o = none ∧ z = -1) ∨ ∃ (l : Lnk) (j : Nat), o = some l ∧ z = (j : Int) ∧ j < links.length ∧ links.getD j lnk0 = l
set_option maxRecDepth 20000 in
set_option maxHeartbeats 3200000 in
theorem rat9_any (nm cur : ByteArray) (A : Option Addr) (c : Nat) (L : List Acc) (B : Option Addr) (d : Nat) (K : List Lnk) (jt : Bool) (code day : Int) (w : World) (hz : AccAt w A L) (hy : LnkAt w B K) (hl : L.length ≤ 1000) (hm : K.length ≤ 1000) :
  Calls Try.prog 14 #[entV nm cur A L.length c B K.length d jt, .int .i64 code, .int .i64 day] w fun e w' => e = .returned (.tuple #[.int .i64 (atV L K code day), .int .i64 (atE L K code day)]) ∧ Below w.heap.size w w' := by
 have hn := eb_new w 25 nm cur A L.length c B K.length d jt
 have hB := below_alloc_new (w := w) (.cells #[.string nm, .string cur, .slice A L.length c, .slice B K.length d, .bool jt] 25)
 have HEB := Lib.hid hn
 have hz2 := hz.up hB
 have hy2 := hy.up hB
 have hf := rfind_any A c L code _ hz2 hl
 have hv := fun w => rvd_any day w
 have hE : atE L K code day = if vdB day = true then if (fnd L code).isSome = true then match atO K code day with
  | none => 15
  | some _ => 0
 else 8 else 2 := rfl
 have hV : atV L K code day = if vdB day = true then if (fnd L code).isSome = true then match atO K code day with
  | none => 0
  | some l => l.tgt
 else 0 else 0 := rfl
 generalize atE L K code day = re at *
 generalize atV L K code day = rv at *
 generalize fndA L code = fa at *
 generalize L.length = n at *
 obtain ⟨m, hm2⟩ : ∃ m, K.length = m := ⟨_, rfl⟩
 rw [hm2] at hm HEB hB hf hy2 hz2 hn ⊢
 have HM := Lib.hid hm2
 obtain ⟨c0, c1, c2, c3, c4, lt⟩ := hn
 clear hm2 hz hy
 cases hq : vdB day
 ·rw [hq] at hv hE hV
  have HE := Lib.hid hE
  have HV := Lib.hid hV
  have HVd := Lib.hid hv
  clear hv hE hV hq hf hy2 hz2
  go_enter Try.func14, Try.ntmps14
  go_wp2_with (go_at_call 27; refine (HVd.out _).mono ?_; rintro e w1 ⟨rfl, rfl⟩)
  go_ret2
  exact ⟨by rw [HE.out, HV.out]; rfl, hB⟩
 rw [hq, if_pos rfl] at hE hV
 rw [hq] at hv
 have HVd := Lib.hid hv
 clear hq hv
 cases hfs : (fnd L code).isSome
 ·rw [hfs] at hf hE hV
  have HE := Lib.hid hE
  have HV := Lib.hid hV
  have HF := Lib.hid hf
  clear hE hV hf hfs hy2 hz2
  go_enter Try.func14, Try.ntmps14
  go_wp2_with (first
   | (go_at_call 27; refine (HVd.out _).mono ?_; rintro e w1 ⟨rfl, rfl⟩)
   | (go_at_call 26; refine HF.out.mono ?_; rintro e w2 ⟨rfl, hb⟩; replace hB := below_new (below_more hB hb) (.cells #[.int .i64 fa.code, .int .i64 fa.kind, .int .i64 fa.basis, .int .i64 fa.par] 50); clear hb))
  go_ret2
  exact ⟨by rw [HE.out, HV.out]; rfl, hB⟩
 rw [hfs, if_pos rfl] at hE hV
 rw [hfs] at hf
 have HE := Lib.hid hE
 have HV := Lib.hid hV
 have HF := Lib.hid hf
 have HY := Lib.hid hy2
 clear hE hV hf hfs hy2 hz2
 go_enter Try.func14, Try.ntmps14
 go_wp2_with (first
  | (go_at_call 27; refine (HVd.out _).mono ?_; rintro e w1 ⟨rfl, rfl⟩)
  | (go_at_call 26; refine HF.out.mono ?_; rintro e w2 ⟨rfl, hb⟩; replace HEB := Lib.hid ((HEB.out.up hb).up (below_alloc_new (.cells #[.int .i64 fa.code, .int .i64 fa.kind, .int .i64 fa.basis, .int .i64 fa.par] 50))); replace HY := Lib.hid ((HY.out.up hb).up (below_alloc_new (.cells #[.int .i64 fa.code, .int .i64 fa.kind, .int .i64 fa.basis, .int .i64 fa.par] 50))); replace hB := below_new (below_more hB hb) (.cells #[.int .i64 fa.code, .int .i64 fa.kind, .int .i64 fa.basis, .int .i64 fa.par] 50); clear hb c0 c1 c2 c3 c4 lt; obtain ⟨c0, c1, c2, c3, c4, lt⟩ := HEB.out))
 obtain ⟨ge, hge⟩ : ∃ ge, w.heap.size = ge := ⟨_, rfl⟩
 rw [hge] at HEB ⊢
 generalize World.alloc w2 _ = W2 at *
 clear c0 c1 c2 c3 c4 lt HF HVd
 go_loopg [10, 11] m (fun kx s10 s11 wr => ∃ (k : Nat) (z : Int), s10 = .int .i64 z ∧ s11 = .int .i64 k ∧ k ≤ m ∧ m - k ≤ kx ∧ Hid (BestAt K (atO (K.take k) code day) z) ∧ Hid (EB wr ge nm cur A n c B m d jt) ∧ Hid (LnkAt wr B K) ∧ Below ge w wr)
 case atStart => exact ⟨0, -1, rfl, rfl, by omega, by omega, Lib.hid (.inl ⟨rfl, rfl⟩), HEB, HY, by rw [← hge]; exact hB⟩
 case round =>
  clear HEB HY hB
  obtain ⟨k, z, rfl, rfl, hk, hkx, HBA, HEB, HY, hB⟩ := hrel
  by_cases hlt : k < m
  ·have hltz : (k : Int) < (m : Int) := by omega
   obtain ⟨b, off, rfl, hbw, hcs⟩ := HY.out (by rw [HM.out]; omega)
   have l3 := hcs k (by rw [HM.out]; exact hlt)
   have hst := atO_succ (links := K) (code := code) (day := day) (k := k) (by rw [HM.out]; exact hlt)
   obtain ⟨l, hle⟩ : ∃ l, K.getD k lnk0 = l := ⟨_, rfl⟩
   rw [hle] at l3 hst
   have HLE := Lib.hid hle
   have HST := Lib.hid hst
   have HCS := Lib.hid hcs
   have hgs : ge ≤ wr.heap.size := by have := hB.size; omega
   have HB3 : Hid (Below ge w (wr.alloc (.cells #[.int .i64 l.frm, .int .i64 l.tgt, .int .i64 l.since] 46))) := Lib.hid (hB.alloc hgs _)
   have hW := below_alloc_new (w := wr) (.cells #[.int .i64 l.frm, .int .i64 l.tgt, .int .i64 l.since] 46)
   have HE3 := Lib.hid (HEB.out.up hW)
   have HY3 := Lib.hid (HY.out.up hW)
   have HL3 := Lib.hid (lb_new wr 46 l)
   have HCS3 : Hid (∀ i, i < K.length → L3 (wr.alloc (.cells #[.int .i64 l.frm, .int .i64 l.tgt, .int .i64 l.since] 46)) b (off + i * 3) (K.getD i lnk0)) := Lib.hid (fun i hi => (hcs i hi).up hW hbw)
   obtain ⟨⟨v0, v1, v2⟩, vlt⟩ := HL3.out
   simp only [Nat.zero_add] at v1 v2
   obtain ⟨c0, c1, c2, c3, c4, lt⟩ := HE3.out
   obtain ⟨d0, d1, d2⟩ := l3
   have eEB := HEB.out.c3
   clear hcs hle hst hW
   by_cases h1 : l.frm = code
   ·have q1 : (l.frm == code) = true := by simp [h1]
    rcases Int.lt_or_le day l.since with h2 | h2
    ·have q2 : decide (l.since ≤ day) = false := decide_eq_false (by omega)
     have hh : atHit code day (atO (K.take k) code day) l = false := by unfold atHit; rw [q2]; simp
     clear h1 h2
     have HBS : Hid (BestAt K (atO (K.take (k + 1)) code day) z) := Lib.hid (by rw [HST.out]; unfold atStep; rw [hh]; exact HBA.out)
     clear hh
     go_wp2_with fail
     generalize World.alloc wr _ = W7 at *
     go_quiet (fail)
     have hB4 := below_drewN HB3.out nq
     have HE4 : Hid (EB (W7.drewN nq) ge nm cur A n c (some ⟨b, off, none⟩) m d jt) := Lib.hid ⟨HE3.out.c0, HE3.out.c1, HE3.out.c2, HE3.out.c3, HE3.out.c4, HE3.out.lt⟩
     have HY4 : Hid (LnkAt (W7.drewN nq) (some ⟨b, off, none⟩) K) := Lib.hid (HY3.out.up (below_drewN (Below.refl _ _) nq))
     clear v0 v1 v2 vlt c0 c1 c2 c3 c4 lt d0 d1 d2
     generalize World.drewN _ nq = W8 at *
     go_wp2_with fail
     go_roundg (m - (k + 1))
     case measure => omega
     case rel => exact ⟨k + 1, z, rfl, by go_num, by omega, by omega, HBS, HE4, HY4, hB4⟩
    ·have q2 : decide (l.since ≤ day) = true := decide_eq_true h2
     rcases HBA.out with ⟨ho, rfl⟩ | ⟨bl, j, ho, rfl, hjl, hje⟩
     ·have hh : atHit code day (atO (K.take k) code day) l = true := by unfold atHit; rw [ho, q2, decide_eq_true h1]; rfl
      clear h1 h2 ho
      have HBS : Hid (BestAt K (atO (K.take (k + 1)) code day) (k : Int)) := Lib.hid (by rw [HST.out]; unfold atStep; rw [hh]; exact .inr ⟨l, k, rfl, rfl, by rw [HM.out]; exact hlt, HLE.out⟩)
      clear hh
      go_wp2_with fail
      generalize World.alloc wr _ = W7 at *
      go_quiet (fail)
      have hB4 := below_drewN HB3.out nq
      have HE4 : Hid (EB (W7.drewN nq) ge nm cur A n c (some ⟨b, off, none⟩) m d jt) := Lib.hid ⟨HE3.out.c0, HE3.out.c1, HE3.out.c2, HE3.out.c3, HE3.out.c4, HE3.out.lt⟩
      have HY4 : Hid (LnkAt (W7.drewN nq) (some ⟨b, off, none⟩) K) := Lib.hid (HY3.out.up (below_drewN (Below.refl _ _) nq))
      clear v0 v1 v2 vlt c0 c1 c2 c3 c4 lt d0 d1 d2
      generalize World.drewN _ nq = W8 at *
      go_wp2_with fail
      go_roundg (m - (k + 1))
      case measure => omega
      case rel => exact ⟨k + 1, (k : Int), rfl, by go_num, by omega, by omega, HBS, HE4, HY4, hB4⟩
     ·have hjm : j < m := by rw [← HM.out]; exact hjl
      have hjz : (j : Int) < (m : Int) := by omega
      have q3 : decide ((j : Int) < 0) = false := decide_eq_false (by omega)
      obtain ⟨w0, w1, w2⟩ := HCS3.out j hjl
      rw [hje] at w0 w1 w2
      rcases Int.lt_or_le bl.since l.since with h3 | h3
      ·have q4 : decide (bl.since < l.since) = true := decide_eq_true h3
       have hh : atHit code day (atO (K.take k) code day) l = true := by unfold atHit; rw [ho, q2, decide_eq_true h1]; simpa using h3
       clear h1 h2 h3 ho hje hjl
       have HBS : Hid (BestAt K (atO (K.take (k + 1)) code day) (k : Int)) := Lib.hid (by rw [HST.out]; unfold atStep; rw [hh]; exact .inr ⟨l, k, rfl, rfl, by rw [HM.out]; exact hlt, HLE.out⟩)
       clear hh
       go_wp2_with fail
       generalize World.alloc wr _ = W7 at *
       go_quiet (fail)
       have hB4 := below_drewN HB3.out nq
       have HE4 : Hid (EB (W7.drewN nq) ge nm cur A n c (some ⟨b, off, none⟩) m d jt) := Lib.hid ⟨HE3.out.c0, HE3.out.c1, HE3.out.c2, HE3.out.c3, HE3.out.c4, HE3.out.lt⟩
       have HY4 : Hid (LnkAt (W7.drewN nq) (some ⟨b, off, none⟩) K) := Lib.hid (HY3.out.up (below_drewN (Below.refl _ _) nq))
       clear v0 v1 v2 vlt c0 c1 c2 c3 c4 lt d0 d1 d2
       generalize World.drewN _ nq = W8 at *
       go_wp2_with fail
       go_roundg (m - (k + 1))
       case measure => omega
       case rel => exact ⟨k + 1, (k : Int), rfl, by go_num, by omega, by omega, HBS, HE4, HY4, hB4⟩
      ·have q4 : decide (bl.since < l.since) = false := decide_eq_false (by omega)
       have hh : atHit code day (atO (K.take k) code day) l = false := by unfold atHit; rw [ho, q2, decide_eq_true h1]; simp; omega
       clear h1 h2 h3 ho hje hjl
       have HBS : Hid (BestAt K (atO (K.take (k + 1)) code day) (j : Int)) := Lib.hid (by rw [HST.out]; unfold atStep; rw [hh]; exact HBA.out)
       clear hh
       go_wp2_with fail
       generalize World.alloc wr _ = W7 at *
       go_quiet (fail)
       have hB4 := below_drewN HB3.out nq
       have HE4 : Hid (EB (W7.drewN nq) ge nm cur A n c (some ⟨b, off, none⟩) m d jt) := Lib.hid ⟨HE3.out.c0, HE3.out.c1, HE3.out.c2, HE3.out.c3, HE3.out.c4, HE3.out.lt⟩
       have HY4 : Hid (LnkAt (W7.drewN nq) (some ⟨b, off, none⟩) K) := Lib.hid (HY3.out.up (below_drewN (Below.refl _ _) nq))
       clear v0 v1 v2 vlt c0 c1 c2 c3 c4 lt d0 d1 d2
       generalize World.drewN _ nq = W8 at *
       go_wp2_with fail
       go_roundg (m - (k + 1))
       case measure => omega
       case rel => exact ⟨k + 1, (j : Int), rfl, by go_num, by omega, by omega, HBS, HE4, HY4, hB4⟩
   ·have q1 : (l.frm == code) = false := by simp [h1]
    have hh : atHit code day (atO (K.take k) code day) l = false := by unfold atHit; rw [decide_eq_false h1]; rfl
    clear h1
    have HBS : Hid (BestAt K (atO (K.take (k + 1)) code day) z) := Lib.hid (by rw [HST.out]; unfold atStep; rw [hh]; exact HBA.out)
    clear hh
    go_wp2_with fail
    generalize World.alloc wr _ = W7 at *
    go_quiet (fail)
    have hB4 := below_drewN HB3.out nq
    have HE4 : Hid (EB (W7.drewN nq) ge nm cur A n c (some ⟨b, off, none⟩) m d jt) := Lib.hid ⟨HE3.out.c0, HE3.out.c1, HE3.out.c2, HE3.out.c3, HE3.out.c4, HE3.out.lt⟩
    have HY4 : Hid (LnkAt (W7.drewN nq) (some ⟨b, off, none⟩) K) := Lib.hid (HY3.out.up (below_drewN (Below.refl _ _) nq))
    clear v0 v1 v2 vlt c0 c1 c2 c3 c4 lt d0 d1 d2
    generalize World.drewN _ nq = W8 at *
    go_wp2_with fail
    go_roundg (m - (k + 1))
    case measure => omega
    case rel => exact ⟨k + 1, z, rfl, by go_num, by omega, by omega, HBS, HE4, HY4, hB4⟩
  ·obtain rfl : k = m := by omega
   have hltz : ¬ (k : Int) < (k : Int) := by omega
   have hall : atO (K.take k) code day = atO K code day := by rw [List.take_of_length_le (by rw [HM.out]; omega)]
   have hba := HBA.out
   rw [hall] at hba
   obtain ⟨c0, c1, c2, c3, c4, lt⟩ := HEB.out
   rcases hba with ⟨ho, rfl⟩ | ⟨bl, j, ho, rfl, hjl, hje⟩
   ·have h1 := HE.out
    have h2 := HV.out
    rw [ho] at h1 h2
    have E1 := Lib.hid h1
    have E2 := Lib.hid h2
    clear h1 h2 ho hall
    go_wp2_with fail
    go_ret2
    exact ⟨by rw [E1.out, E2.out]; rfl, hB⟩
   ·have h1 := HE.out
    have h2 := HV.out
    rw [ho] at h1 h2
    have E1 := Lib.hid h1
    have E2 : Hid (rv = bl.tgt) := Lib.hid h2
    have q3 : decide ((j : Int) < 0) = false := decide_eq_false (by omega)
    have hjm : j < k := by rw [← HM.out]; exact hjl
    have hjz : (j : Int) < (k : Int) := by omega
    obtain ⟨b, off, rfl, hbw, hcs⟩ := HY.out (by rw [HM.out]; omega)
    obtain ⟨w0, w1, w2⟩ := hcs j hjl
    rw [hje] at w0 w1 w2
    clear h1 h2 ho hall hcs hje hjl
    go_wp2_with fail
    go_ret2
    exact ⟨by rw [E1.out, E2.out]; rfl, hB⟩
end Go.Proofs.Ytmahnpbjjadipaa
namespace Go.Proofs
open Go.Shelf
def Try.keys35_ren : Go.Shelf.Ren := ⟨fun | 7 => 35 | 10 => 52 | n => n, fun | 23 => 61 | 26 => 3 | 3 => 4 | 28 => 64 | 0 => 0 | 27 => 63 | 33 => 56 | 4 => 4 | n => n, fun | n => n⟩
def Try.keys54_ren : Go.Shelf.Ren := ⟨fun | 7 => 54 | 10 => 60 | n => n, fun | 23 => 69 | 26 => 3 | 3 => 73 | 28 => 64 | 0 => 0 | 27 => 63 | 33 => 56 | 4 => 4 | n => n, fun | n => n⟩
theorem Try.keys54 : Go.Proofs.SlLaysZI.n7 Try.prog Try.keys54_ren := {
 mixed := by kernel_rfl
 f7 := ⟨Try.f54.name, by decide, Try.func54.trans (congrArg some (by kernel_rfl))⟩
 f10 := ⟨Try.f60.name, by decide, Try.func60.trans (congrArg some (by kernel_rfl))⟩
 t0 := Try.underlying0
 a0 := Try.isAgg0
 z0 := Try.sizeOf0
 v0 := Try.zeroValue0
 t4 := Try.underlying4
 a4 := Try.isAgg4
 z4 := Try.sizeOf4
 v4 := Try.zeroValue4
 t23 := Try.underlying69
 a23 := Try.isAgg69
 z23 := Try.sizeOf69
 v23 := Try.zeroValue69
 t26 := Try.underlying3
 a26 := Try.isAgg3
 z26 := Try.sizeOf3
 v26 := Try.zeroValue3
 t27 := Try.underlying63
 a27 := Try.isAgg63
 z27 := Try.sizeOf63
 v27 := Try.zeroValue63
 t28 := Try.underlying64
 a28 := Try.isAgg64
 z28 := Try.sizeOf64
 v28 := Try.zeroValue64
 t33 := Try.underlying56
 a33 := Try.isAgg56
 z33 := Try.sizeOf56
 v33 := Try.zeroValue56 }
def Try.sorted34_ren : Go.Shelf.Ren := ⟨fun | 6 => 34 | 8 => 50 | 9 => 51 | 11 => 57 | 13 => 59 | 12 => 58 | 23 => 72 | 24 => 73 | 14 => 63 | 15 => 64 | 16 => 65 | 17 => 66 | 18 => 67 | 19 => 68 | 20 => 69 | 21 => 70 | 22 => 71 | 25 => 74 | 26 => 75 | 27 => 76 | 28 => 77 | 29 => 78 | 30 => 49 | 31 => 79 | n => n, fun | 26 => 3 | 28 => 64 | 24 => 33 | 0 => 0 | 3 => 3 | 37 => 92 | 48 => 104 | 50 => 106 | 4 => 4 | 40 => 97 | 39 => 96 | 45 => 85 | 5 => 5 | 9 => 9 | 51 => 107 | 55 => 111 | 57 => 113 | 58 => 114 | 33 => 56 | n => n, fun | n => n⟩
theorem Try.sorted34 : Go.Proofs.SlLaysZI.n6 Try.prog Try.sorted34_ren := {
 mixed := by kernel_rfl
 f6 := ⟨Try.f34.name, by decide, Try.func34.trans (congrArg some (by kernel_rfl))⟩
 f8 := ⟨Try.f50.name, by decide, Try.func50.trans (congrArg some (by kernel_rfl))⟩
 f11 := ⟨Try.f57.name, by decide, Try.func57.trans (congrArg some (by kernel_rfl))⟩
 t0 := Try.underlying0
 a0 := Try.isAgg0
 z0 := Try.sizeOf0
 v0 := Try.zeroValue0
 t24 := Try.underlying33
 a24 := Try.isAgg33
 z24 := Try.sizeOf33
 v24 := Try.zeroValue33
 t26 := Try.underlying3
 a26 := Try.isAgg3
 z26 := Try.sizeOf3
 v26 := Try.zeroValue3
 t28 := Try.underlying64
 a28 := Try.isAgg64
 z28 := Try.sizeOf64
 v28 := Try.zeroValue64
 i26 := by kernel_rfl }
def Try.sort51_ren : Go.Shelf.Ren := ⟨fun | 5 => 51 | 8 => 59 | 7 => 58 | 19 => 72 | 20 => 73 | 10 => 63 | 11 => 64 | 12 => 65 | 13 => 66 | 14 => 67 | 15 => 68 | 16 => 69 | 17 => 70 | 18 => 71 | 30 => 74 | 31 => 75 | 32 => 76 | 33 => 77 | 34 => 78 | 35 => 49 | 40 => 79 | n => n, fun | 23 => 33 | 25 => 3 | 3 => 3 | 32 => 92 | 22 => 33 | 0 => 0 | 44 => 104 | 46 => 106 | 4 => 4 | 36 => 97 | 35 => 96 | 41 => 85 | 5 => 5 | 9 => 9 | 53 => 107 | 57 => 111 | 63 => 113 | 64 => 114 | n => n, fun | n => n⟩
theorem Try.sort51 : Go.Proofs.SlLaysM.n5 Try.prog Try.sort51_ren := {
 mixed := by kernel_rfl
 f5 := ⟨Try.f51.name, by decide, Try.func51.trans (congrArg some (by kernel_rfl))⟩
 f7 := ⟨Try.f58.name, by decide, Try.func58.trans (congrArg some (by kernel_rfl))⟩
 f8 := Try.func59.trans (congrArg some (by kernel_rfl))
 f10 := ⟨Try.f63.name, by decide, Try.func63.trans (congrArg some (by kernel_rfl))⟩
 f11 := ⟨Try.f64.name, by decide, Try.func64.trans (congrArg some (by kernel_rfl))⟩
 f12 := ⟨Try.f65.name, by decide, Try.func65.trans (congrArg some (by kernel_rfl))⟩
 f13 := ⟨Try.f66.name, by decide, Try.func66.trans (congrArg some (by kernel_rfl))⟩
 f14 := ⟨Try.f67.name, by decide, Try.func67.trans (congrArg some (by kernel_rfl))⟩
 f15 := ⟨Try.f68.name, by decide, Try.func68.trans (congrArg some (by kernel_rfl))⟩
 f16 := ⟨Try.f69.name, by decide, Try.func69.trans (congrArg some (by kernel_rfl))⟩
 f17 := ⟨Try.f70.name, by decide, Try.func70.trans (congrArg some (by kernel_rfl))⟩
 f18 := ⟨Try.f71.name, by decide, Try.func71.trans (congrArg some (by kernel_rfl))⟩
 f19 := Try.func72.trans (congrArg some (by kernel_rfl))
 f20 := Try.func73.trans (congrArg some (by kernel_rfl))
 f30 := ⟨Try.f74.name, by decide, Try.func74.trans (congrArg some (by kernel_rfl))⟩
 f31 := Try.func75.trans (congrArg some (by kernel_rfl))
 f32 := Try.func76.trans (congrArg some (by kernel_rfl))
 f33 := ⟨Try.f77.name, by decide, Try.func77.trans (congrArg some (by kernel_rfl))⟩
 f34 := ⟨Try.f78.name, by decide, Try.func78.trans (congrArg some (by kernel_rfl))⟩
 f35 := ⟨Try.f49.name, by decide, Try.func49.trans (congrArg some (by kernel_rfl))⟩
 f40 := ⟨Try.f79.name, by decide, Try.func79.trans (congrArg some (by kernel_rfl))⟩
 t0 := Try.underlying0
 a0 := Try.isAgg0
 z0 := Try.sizeOf0
 v0 := Try.zeroValue0
 t3 := Try.underlying3
 a3 := Try.isAgg3
 z3 := Try.sizeOf3
 v3 := Try.zeroValue3
 t4 := Try.underlying4
 a4 := Try.isAgg4
 z4 := Try.sizeOf4
 v4 := Try.zeroValue4
 t5 := Try.underlying5
 a5 := Try.isAgg5
 z5 := Try.sizeOf5
 v5 := Try.zeroValue5
 t9 := Try.underlying9
 a9 := Try.isAgg9
 z9 := Try.sizeOf9
 v9 := Try.zeroValue9
 t22 := Try.underlying33
 a22 := Try.isAgg33
 z22 := Try.sizeOf33
 v22 := Try.zeroValue33
 t23 := Try.underlying33
 a23 := Try.isAgg33
 z23 := Try.sizeOf33
 v23 := Try.zeroValue33
 t25 := Try.underlying3
 a25 := Try.isAgg3
 z25 := Try.sizeOf3
 v25 := Try.zeroValue3
 t32 := Try.underlying92
 a32 := Try.isAgg92
 z32 := Try.sizeOf92
 v32 := Try.zeroValue92
 t35 := Try.underlying96
 a35 := Try.isAgg96
 z35 := Try.sizeOf96
 v35 := Try.zeroValue96
 t36 := Try.underlying97
 a36 := Try.isAgg97
 z36 := Try.sizeOf97
 v36 := Try.zeroValue97
 t41 := Try.underlying85
 a41 := Try.isAgg85
 z41 := Try.sizeOf85
 v41 := Try.zeroValue85
 t44 := Try.underlying104
 a44 := Try.isAgg104
 z44 := Try.sizeOf104
 v44 := Try.zeroValue104
 t46 := Try.underlying106
 a46 := Try.isAgg106
 z46 := Try.sizeOf106
 v46 := Try.zeroValue106
 t53 := Try.underlying107
 a53 := Try.isAgg107
 z53 := Try.sizeOf107
 v53 := Try.zeroValue107
 t57 := Try.underlying111
 a57 := Try.isAgg111
 z57 := Try.sizeOf111
 v57 := Try.zeroValue111
 t63 := Try.underlying113
 a63 := Try.isAgg113
 z63 := Try.sizeOf113
 v63 := Try.zeroValue113
 t64 := Try.underlying114
 a64 := Try.isAgg114
 z64 := Try.sizeOf114
 v64 := Try.zeroValue114 }
end Go.Proofs
namespace Go.Proofs.Ytmahnpbjjadipaa
open Go.RowKit Go.Maps Go.Sort Go.Shelf
theorem sorts_any (m : Nat) : AnyZI.SortsIn Try.prog Try.sorted34_ren Fence.wide m :=
  ⟨fun blk off cap ss W hH hblk hsz => callsIn_wide.2 (AnyM.slices_Sort_int Try.sort51 blk off cap ss W hH hblk hsz),
   fun p cap W => callsIn_wide.2 (AnyM.slices_Sort_int_none Try.sort51 p cap W)⟩
theorem intKeys_is {w : World} {b n : Nat} {D : DataW Value} (hown : w.ownsMap Try.prog 3 heldE b n D) : (intKeys D).Nodup ∧ ∀ x, x ∈ intKeys D ↔ Maps.has D (.int .i64 x) = true := by
 obtain ⟨es, hD, hpw, _⟩ := hown.entries ti_keyed
 obtain ⟨es', hD', hko⟩ := hown.keysOf
 obtain rfl : es = es' := by rw [hD] at hD'; simpa using hD'
 subst hD
 have hk : ∀ p ∈ es, ∃ x, p.1 = Lit.int .i64 x := fun p hp => by obtain ⟨v, hv⟩ := hko p hp; obtain ⟨x, _, hx, _⟩ := Maps.keyOf_i64 Try.underlying3 hv; exact ⟨x, hx⟩
 refine ⟨?_, fun x => ?_⟩
 ·show (es.map fun p => Go.intOf p.1).Nodup
  refine List.pairwise_map.2 (hpw.imp_of_mem fun {p q} hp' hq' hne e => hne ?_)
  obtain ⟨a, ha⟩ := hk p hp'
  obtain ⟨b, hb⟩ := hk q hq'
  rw [ha, hb] at e ⊢
  exact congrArg _ e
 ·rw [has_eq, List.any_eq_true]
  show x ∈ es.map (fun p => Go.intOf p.1) ↔ _
  rw [List.mem_map]
  constructor
  ·rintro ⟨p, hp', rfl⟩
   obtain ⟨a, ha⟩ := hk p hp'
   exact ⟨p, hp', by rw [ha]; simp [Lit.sameKey, Go.intOf]⟩
  ·rintro ⟨p, hp', hs⟩
   obtain ⟨a, ha⟩ := hk p hp'
   rw [ha] at hs
   exact ⟨p, hp', by rw [ha]; simpa [Lit.sameKey, Go.intOf] using hs⟩
set_option maxHeartbeats 1000000 in
theorem sortedb_any (b n : Nat) (f : Int → Option Value) (w : World) (h : MapV w b n f) (hn : n ≤ 1000000) :
  Calls Try.prog 34 #[.func (.func 52) #[] #[.pointer (some ⟨w.heap.size, 0, none⟩)]] (w.alloc (.cells #[.map (some b)] 61)) fun e w' => ∃ (v : Value) (L : List Int), e = .returned v ∧ SlI w' v L ∧ Asc L ∧ (∀ x, x ∈ L ↔ (f x).isSome = true) ∧ Below w.heap.size w w' := by
 obtain ⟨D, hown, hD⟩ := h
 obtain ⟨hnd, hmem⟩ := intKeys_is hown
 have hbl := hown.lt
 have hsz := hown.size_le
 have hseq : SeqGives Fence.wide 2 Try.prog 52 #[.pointer (some ⟨w.heap.size, 0, none⟩)] encZ (fun ss => ss.Perm (intKeys D)) (Maps.size D) (w.alloc (.cells #[.map (some b)] 61)) :=
  AnyZI.keys_gives (ρ := Try.keys35_ren) { Try.keys35 with } Fence.wide _ trivial rfl (by omega) w.heap.size b n D _ (by simp) (by simp) (by
   obtain ⟨es, clock, hb, Ft, hs, hD⟩ := hown
   exact ⟨es, clock, (Below.heap_alloc _ _ b hbl).trans hb, Ft, hs, hD⟩)
 have cS := AnyZI.sorted_in Try.sorted34 Fence.wide 5 trivial trivial trivial trivial rfl (by omega) (sorts_any _) (enters_of Try.func51 (by kernel_rfl) rfl) 52 #[.pointer (some ⟨w.heap.size, 0, none⟩)] trivial (enters_of Try.func52 (by kernel_rfl) rfl) _ _ (by unfold maxLen; omega) (by omega) _ hseq
 refine ((callsIn_wide (n := 5)).1 cS).mono ?_
 rintro e w' ⟨v, ss, rfl, hp, hrow, _, hb⟩
 have hnd2 : ss.Nodup := hp.nodup_iff.2 hnd
 have hpm := List.mergeSort_perm ss (fun x y => decide (x ≤ y))
 refine ⟨v, ss.mergeSort (fun x y => decide (x ≤ y)), rfl, ?_, sort_asc hnd2, fun x => ?_, ?_⟩
 ·refine OwnI.sli (e := 3) (base := (w.alloc (.cells #[.map (some b)] 61)).heap.size) ?_
  unfold OwnI
  rw [List.length_mergeSort]
  exact hrow
 ·rw [hpm.mem_iff, hp.mem_iff, hmem, (hD x).1]
 ·exact ((Below.refl _ w).alloc (Nat.le_refl _) _).trans (hb.mono (by simp))
theorem keyss_any (b : Nat) (w : World) : Calls Try.prog 54 #[.map (some b)] w fun e w' => e = .returned (.func (.func 60) #[] #[.pointer (some ⟨w.heap.size, 0, none⟩)]) ∧ w' = w.alloc (.cells #[.map (some b)] 69) :=
 (callsIn_wide (n := 5)).1 (AnyZI.keys_in Try.keys54 Fence.wide 5 trivial rfl (some b) w)
set_option maxHeartbeats 1000000 in
theorem sorteds_any (b n : Nat) (f : Int → Option Value) (w : World) (h : MapV w b n f) (hn : n ≤ 1000000) :
  Calls Try.prog 34 #[.func (.func 60) #[] #[.pointer (some ⟨w.heap.size, 0, none⟩)]] (w.alloc (.cells #[.map (some b)] 69)) fun e w' => ∃ (v : Value) (L : List Int), e = .returned v ∧ SlI w' v L ∧ Asc L ∧ (∀ x, x ∈ L ↔ (f x).isSome = true) ∧ Below w.heap.size w w' := by
 obtain ⟨D, hown, hD⟩ := h
 obtain ⟨hnd, hmem⟩ := intKeys_is hown
 have hbl := hown.lt
 have hsz := hown.size_le
 have hseq : SeqGives Fence.wide 2 Try.prog 60 #[.pointer (some ⟨w.heap.size, 0, none⟩)] encZ (fun ss => ss.Perm (intKeys D)) (Maps.size D) (w.alloc (.cells #[.map (some b)] 69)) :=
  AnyZI.keys_gives (ρ := Try.keys54_ren) { Try.keys54 with } Fence.wide _ trivial rfl (by omega) w.heap.size b n D _ (by simp) (by simp) (by
   obtain ⟨es, clock, hb, Ft, hs, hD⟩ := hown
   exact ⟨es, clock, (Below.heap_alloc _ _ b hbl).trans hb, Ft, hs, hD⟩)
 have cS := AnyZI.sorted_in Try.sorted34 Fence.wide 5 trivial trivial trivial trivial rfl (by omega) (sorts_any _) (enters_of Try.func51 (by kernel_rfl) rfl) 60 #[.pointer (some ⟨w.heap.size, 0, none⟩)] trivial (enters_of Try.func60 (by kernel_rfl) rfl) _ _ (by unfold maxLen; omega) (by omega) _ hseq
 refine ((callsIn_wide (n := 5)).1 cS).mono ?_
 rintro e w' ⟨v, ss, rfl, hp, hrow, _, hb⟩
 have hnd2 : ss.Nodup := hp.nodup_iff.2 hnd
 have hpm := List.mergeSort_perm ss (fun x y => decide (x ≤ y))
 refine ⟨v, ss.mergeSort (fun x y => decide (x ≤ y)), rfl, ?_, sort_asc hnd2, fun x => ?_, ?_⟩
 ·refine OwnI.sli (e := 3) (base := (w.alloc (.cells #[.map (some b)] 69)).heap.size) ?_
  unfold OwnI
  rw [List.length_mergeSort]
  exact hrow
 ·rw [hpm.mem_iff, hp.mem_iff, hmem, (hD x).1]
 ·exact ((Below.refl _ w).alloc (Nat.le_refl _) _).trans (hb.mono (by simp))
open Go.RowKit Go.Maps
theorem mvB_no1 {L : List Acc} {K : List Lnk} {c : List Acc} (h : vB c true = false) : mvB L K c = false := by unfold mvB; rw [h]; rfl
theorem mvB_no2 {L : List Acc} {K : List Lnk} {c : List Acc} (h : vB L false = false) : mvB L K c = false := by unfold mvB; rw [h]; simp
theorem mvB_no3 {L : List Acc} {K : List Lnk} {c : List Acc} (h : 400 < K.length) : mvB L K c = false := by unfold mvB; rw [decide_eq_false (show ¬ K.length ≤ 400 by omega)]; simp
theorem mvB_no4 {L : List Acc} {K : List Lnk} {c : List Acc} {k : Nat} (hk : k < K.length) (h : lnkB L c (K.getD k lnk0) = false) : mvB L K c = false := by
 unfold mvB; rw [allTo_no (p := fun i => lnkB L c (K.getD i lnk0)) hk h]; simp
theorem mvB_end {L : List Acc} {K : List Lnk} {c : List Acc} (h1 : vB c true = true) (h2 : vB L false = true) (h3 : K.length ≤ 400) (h4 : allTo (fun i => lnkB L c (K.getD i lnk0)) K.length = true) : mvB L K c = allTo (dfB K) K.length := by
 unfold mvB; rw [h1, h2, decide_eq_true h3, h4]; rfl
open Go.RowKit
structure V9 (w : World) (s0 : Nat) (nm cur : ByteArray) (A : Option Addr) (n cp : Nat) (B : Option Addr) (m d : Nat) (jt : Bool) (L : List Acc) (K : List Lnk) (C : Option Addr) (c : List Acc) : Prop where
 eb : EB w s0 nm cur A n cp B m d jt
 hz : AccAt w A L
 hy : LnkAt w B K
 hx : AccAt w C c
theorem V9.up {w w2 : World} {s0 : Nat} {nm cur : ByteArray} {A : Option Addr} {n cp : Nat} {B : Option Addr} {m d : Nat} {jt : Bool} {L : List Acc} {K : List Lnk} {C : Option Addr} {c : List Acc} (h : V9 w s0 nm cur A n cp B m d jt L K C c) (hb : Below w.heap.size w w2) : V9 w2 s0 nm cur A n cp B m d jt L K C c :=
 ⟨h.eb.up hb, h.hz.up hb, h.hy.up hb, h.hx.up hb⟩
theorem mvB_no5 {L : List Acc} {K : List Lnk} {c : List Acc} {k : Nat} (hk : k < K.length) (h : dfB K k = false) : mvB L K c = false := by
 unfold mvB
 rw [allTo_no (p := dfB K) hk h]; simp
theorem dfB_no {K : List Lnk} {k j : Nat} (hj : j < k) (h : smB K k j = true) : dfB K k = false := by
 unfold dfB
 exact allTo_no (k := j) hj (by rw [h]; rfl)
set_option maxRecDepth 20000 in
set_option maxHeartbeats 6400000 in
theorem rval9_any (nm cur : ByteArray) (A : Option Addr) (cp : Nat) (L : List Acc) (B : Option Addr) (d : Nat) (K : List Lnk) (jt : Bool) (C : Option Addr) (cc : Nat) (c : List Acc) (w : World) (hz : AccAt w A L) (hy : LnkAt w B K) (hx : AccAt w C c) (hl : L.length ≤ 1000) (hm : K.length ≤ 1000) (hc : c.length ≤ 1000) :
  Calls Try.prog 12 #[entV nm cur A L.length cp B K.length d jt, .slice C c.length cc] w fun e w' => e = .returned (.bool (mvB L K c)) ∧ Below w.heap.size w w' := by
 have hB := below_alloc_new (w := w) (.cells #[.string nm, .string cur, .slice A L.length cp, .slice B K.length d, .bool jt] 25)
 have hV9 : V9 (w.alloc (.cells #[.string nm, .string cur, .slice A L.length cp, .slice B K.length d, .bool jt] 25)) w.heap.size nm cur A L.length cp B K.length d jt L K C c := ⟨eb_new _ _ _ _ _ _ _ _ _ _ _, hz.up hB, hy.up hB, hx.up hB⟩
 have h1 : ∀ w, AccAt w C c → Calls Try.prog 25 #[.slice C c.length cc, .bool true] w fun e w' => e = .returned (.bool (vB c true)) ∧ Below w.heap.size w w' := fun w h => by rw [vB_eq]; exact rvalid8_any C cc c true w h hc
 have h2 : ∀ w, AccAt w A L → Calls Try.prog 25 #[.slice A L.length cp, .bool false] w fun e w' => e = .returned (.bool (vB L false)) ∧ Below w.heap.size w w' := fun w h => by rw [vB_eq]; exact rvalid8_any A cp L false w h hl
 have h3 := fun x w h => rfind_any A cp L x w h hl
 have h4 := fun x w h => rfind_any C cc c x w h hc
 have h5 := fun x w => rvd_any x w
 have N1 := mvB_no1 (L := L) (K := K) (c := c)
 have N2 := mvB_no2 (L := L) (K := K) (c := c)
 have N3 := mvB_no3 (L := L) (K := K) (c := c)
 have N4 := fun k => mvB_no4 (L := L) (K := K) (c := c) (k := k)
 have N5 := fun k j (hk : k < K.length) (hj : j < k) h => mvB_no5 (L := L) (c := c) hk (dfB_no (K := K) hj h)
 have NE := fun h1 h2 h3 h4 (h5 : allTo (dfB K) K.length = true) => (mvB_end (L := L) (K := K) (c := c) h1 h2 h3 h4).trans h5
 have hD : ∀ i, dfB K i = allTo (fun k => !smB K i k) i := fun _ => rfl
 have hS : ∀ i k, smB K i k = (decide ((K.getD k lnk0).frm = (K.getD i lnk0).frm) && decide ((K.getD k lnk0).since = (K.getD i lnk0).since)) := fun _ _ => rfl
 have hP : ∀ k, lnkB L c (K.getD k lnk0) = ((fnd L (K.getD k lnk0).frm).isSome && ((fnd c (K.getD k lnk0).tgt).isSome && (decide ((fndA L (K.getD k lnk0).frm).kind = (fndA c (K.getD k lnk0).tgt).kind) && vdB (K.getD k lnk0).since))) := fun _ => rfl
 generalize mvB L K c = r at *
 obtain ⟨P, hPe⟩ : ∃ P : Nat → Bool, (fun i => lnkB L c (K.getD i lnk0)) = P := ⟨_, rfl⟩
 have hPk : ∀ k, lnkB L c (K.getD k lnk0) = P k := fun k => by rw [← hPe]
 rw [hPe] at NE
 simp only [hPk] at N4 hP
 obtain ⟨D9, hD9⟩ : ∃ D9 : Nat → Bool, dfB K = D9 := ⟨_, rfl⟩
 rw [hD9] at NE
 simp only [hD9] at hD
 obtain ⟨S9, hS9⟩ : ∃ S9 : Nat → Nat → Bool, smB K = S9 := ⟨_, rfl⟩
 simp only [hS9] at hD hS N5
 obtain ⟨b1, hb1⟩ : ∃ b, vB c true = b := ⟨_, rfl⟩
 rw [hb1] at h1 N1 NE
 obtain ⟨b2, hb2⟩ : ∃ b, vB L false = b := ⟨_, rfl⟩
 rw [hb2] at h2 N2 NE
 obtain ⟨n, hn2⟩ : ∃ n, L.length = n := ⟨_, rfl⟩
 obtain ⟨k0, hk0⟩ : ∃ k0, c.length = k0 := ⟨_, rfl⟩
 obtain ⟨m, hm2⟩ : ∃ m, K.length = m := ⟨_, rfl⟩
 obtain ⟨s0, hs0⟩ : ∃ s0, w.heap.size = s0 := ⟨_, rfl⟩
 rw [hn2, hm2] at hV9 hB
 rw [hs0] at hV9 hB
 rw [hn2] at h2 h3
 rw [hk0] at h1 h4
 rw [hm2] at N3 N4 N5 NE hm
 rw [hn2, hm2, hk0]
 have HN1 := Lib.hid N1
 have HN2 := Lib.hid N2
 have HN3 := Lib.hid N3
 have HN4 := Lib.hid N4
 have HN5 := Lib.hid N5
 have HNE := Lib.hid NE
 have HD := Lib.hid hD
 have HS := Lib.hid hS
 have HP := Lib.hid hP
 have HM := Lib.hid hm2
 have H1 := Lib.hid h1
 have H2 := Lib.hid h2
 have H3 := Lib.hid h3
 have H4 := Lib.hid h4
 have H5 := Lib.hid h5
 have HS0 := Lib.hid hs0
 have HV := Lib.hid hV9
 obtain ⟨c0, c1, c2, c3, c4, lt⟩ := HV.out.eb
 rw [← HS0.out] at c0 c1 c2 c3 c4 lt
 clear hz hy hx h1 h2 h3 h4 h5 N1 N2 N3 N4 N5 NE hD hS hP hPe hPk hD9 hS9 hb1 hb2 hn2 hk0 hm2 hs0 hl hc hV9
 cases b1
 ·have HR := Lib.hid (HN1.out rfl)
  clear HN1 HN2 HN3 HN4 HN5 HNE
  go_enter Try.func12, Try.ntmps12
  go_wp2_with (go_at_call 25; first
   | ((with_reducible refine (H1.out _ HV.out.hx).mono ?_); rintro e w1 ⟨rfl, hb⟩; have hsq := hB.size; rw [HS0.out] at hsq; replace HV := Lib.hid (HV.out.up hb); replace hB := hB.trans (hb.mono hsq); clear hb hsq c0 c1 c2 c3 c4 lt; obtain ⟨c0, c1, c2, c3, c4, lt⟩ := HV.out.eb; rw [← HS0.out] at c0 c1 c2 c3 c4 lt))
  go_ret
  exact ⟨by rw [HR.out]; rfl, by first | exact hB | (rw [HS0.out]; exact hB)⟩
 cases b2
 ·have HR := Lib.hid (HN2.out rfl)
  clear HN1 HN2 HN3 HN4 HN5 HNE
  go_enter Try.func12, Try.ntmps12
  go_wp2_with (go_at_call 25; first
   | ((with_reducible refine (H1.out _ HV.out.hx).mono ?_); rintro e w1 ⟨rfl, hb⟩; have hsq := hB.size; rw [HS0.out] at hsq; replace HV := Lib.hid (HV.out.up hb); replace hB := hB.trans (hb.mono hsq); clear hb hsq c0 c1 c2 c3 c4 lt; obtain ⟨c0, c1, c2, c3, c4, lt⟩ := HV.out.eb; rw [← HS0.out] at c0 c1 c2 c3 c4 lt)
   | ((with_reducible refine (H2.out _ HV.out.hz).mono ?_); rintro e w2 ⟨rfl, hb⟩; have hsq := hB.size; rw [HS0.out] at hsq; replace HV := Lib.hid (HV.out.up hb); replace hB := hB.trans (hb.mono hsq); clear hb hsq c0 c1 c2 c3 c4 lt; obtain ⟨c0, c1, c2, c3, c4, lt⟩ := HV.out.eb; rw [← HS0.out] at c0 c1 c2 c3 c4 lt))
  go_ret
  exact ⟨by rw [HR.out]; rfl, by first | exact hB | (rw [HS0.out]; exact hB)⟩
 rcases Nat.lt_or_ge 400 m with hm4 | hm4
 ·have HR := Lib.hid (HN3.out hm4)
  have e4 : decide ((400 : Int) < (m : Int)) = true := decide_eq_true (by omega)
  clear HN1 HN2 HN3 HN4 HN5 HNE hm4
  go_enter Try.func12, Try.ntmps12
  go_wp2_with (go_at_call 25; first
   | ((with_reducible refine (H1.out _ HV.out.hx).mono ?_); rintro e w1 ⟨rfl, hb⟩; have hsq := hB.size; rw [HS0.out] at hsq; replace HV := Lib.hid (HV.out.up hb); replace hB := hB.trans (hb.mono hsq); clear hb hsq c0 c1 c2 c3 c4 lt; obtain ⟨c0, c1, c2, c3, c4, lt⟩ := HV.out.eb; rw [← HS0.out] at c0 c1 c2 c3 c4 lt)
   | ((with_reducible refine (H2.out _ HV.out.hz).mono ?_); rintro e w2 ⟨rfl, hb⟩; have hsq := hB.size; rw [HS0.out] at hsq; replace HV := Lib.hid (HV.out.up hb); replace hB := hB.trans (hb.mono hsq); clear hb hsq c0 c1 c2 c3 c4 lt; obtain ⟨c0, c1, c2, c3, c4, lt⟩ := HV.out.eb; rw [← HS0.out] at c0 c1 c2 c3 c4 lt))
  go_ret
  exact ⟨by rw [HR.out]; rfl, by first | exact hB | (rw [HS0.out]; exact hB)⟩
 have e4 : decide ((400 : Int) < (m : Int)) = false := decide_eq_false (by omega)
 have HNE2 := Lib.hid (HNE.out rfl rfl hm4)
 clear HN1 HN2 HN3 HNE hm4
 go_enter Try.func12, Try.ntmps12
 go_wp2_with (go_at_call 25; first
  | ((with_reducible refine (H1.out _ HV.out.hx).mono ?_); rintro e w1 ⟨rfl, hb⟩; have hsq := hB.size; rw [HS0.out] at hsq; replace HV := Lib.hid (HV.out.up hb); replace hB := hB.trans (hb.mono hsq); clear hb hsq c0 c1 c2 c3 c4 lt; obtain ⟨c0, c1, c2, c3, c4, lt⟩ := HV.out.eb; rw [← HS0.out] at c0 c1 c2 c3 c4 lt)
  | ((with_reducible refine (H2.out _ HV.out.hz).mono ?_); rintro e w2 ⟨rfl, hb⟩; have hsq := hB.size; rw [HS0.out] at hsq; replace HV := Lib.hid (HV.out.up hb); replace hB := hB.trans (hb.mono hsq); clear hb hsq c0 c1 c2 c3 c4 lt; obtain ⟨c0, c1, c2, c3, c4, lt⟩ := HV.out.eb; rw [← HS0.out] at c0 c1 c2 c3 c4 lt))
 clear c0 c1 c2 c3 c4 lt
 rw [HS0.out]
 go_loopg [5] m (fun kx s5 wr => ∃ k : Nat, s5 = .int .i64 k ∧ k ≤ m ∧ m - k ≤ kx ∧ Hid (allTo P k = true) ∧ Hid (allTo D9 k = true) ∧ Hid (V9 wr s0 nm cur A n cp B m d jt L K C c) ∧ Below s0 w wr)
 case atStart => exact ⟨0, rfl, by omega, by omega, Lib.hid rfl, Lib.hid rfl, HV, hB⟩
 case round =>
  clear HV hB
  try clear HV
  try clear hB
  obtain ⟨k, rfl, hk, hkx, HA, HA9, HV, hB⟩ := hrel
  have hsz : s0 ≤ wr.heap.size := by have := hB.size; have := HS0.out; omega
  obtain ⟨c0, c1, c2, c3, c4, lt⟩ := HV.out.eb
  by_cases hlt : k < m
  ·have hltz : (k : Int) < (m : Int) := by omega
   obtain ⟨b, off, eB, hbw, hcs⟩ := HV.out.hy (by rw [HM.out]; omega)
   subst eB
   have l3 := hcs k (by rw [HM.out]; exact hlt)
   have hp := HP.out k
   have hno := HN4.out k hlt
   have hs9 := fun j => HS.out k j
   obtain ⟨x, hx⟩ : ∃ x, K.getD k lnk0 = x := ⟨_, rfl⟩
   rw [hx] at l3 hp
   simp only [hx] at hs9
   have hb6 := below_alloc_new (w := wr) (.cells #[.int .i64 x.frm, .int .i64 x.tgt, .int .i64 x.since] 46)
   have HV1 := Lib.hid (HV.out.up hb6)
   have HL1 := Lib.hid (lb_new wr 46 x)
   have HB1 : Hid (Below s0 w (wr.alloc (.cells #[.int .i64 x.frm, .int .i64 x.tgt, .int .i64 x.since] 46))) := Lib.hid (hB.alloc hsz _)
   have HSZ1 : Hid (s0 ≤ (wr.alloc (.cells #[.int .i64 x.frm, .int .i64 x.tgt, .int .i64 x.since] 46)).heap.size) := Lib.hid (by simp; omega)
   have h3 := fun w h => H3.out x.frm w h
   have h4 := fun w h => H4.out x.tgt w h
   have h5 := fun w => H5.out x.since w
   generalize (fnd L x.frm).isSome = q1 at *
   generalize (fnd c x.tgt).isSome = q2 at *
   generalize fndA L x.frm = fa at *
   generalize fndA c x.tgt = fb at *
   generalize vdB x.since = q4 at *
   obtain ⟨q3, hq3⟩ : ∃ q3, decide (fa.kind = fb.kind) = q3 := ⟨_, rfl⟩
   have e3 : (fa.kind != fb.kind) = !q3 := by rw [← hq3]; by_cases h : fa.kind = fb.kind <;> simp [h]
   rw [hq3] at hp
   obtain ⟨d0, d1, d2⟩ := l3
   obtain ⟨⟨v0, v1, v2⟩, vlt⟩ := HL1.out
   simp only [Nat.zero_add] at v1 v2
   obtain ⟨y0, y1, y2, y3, y4, ylt⟩ := HV1.out.eb
   have H3x := Lib.hid h3
   have H4x := Lib.hid h4
   have H5x := Lib.hid h5
   have HS9 := Lib.hid hs9
   have HNo := Lib.hid hno
   have HPx := Lib.hid hp
   have HXE := Lib.hid hx
   clear hcs hx hb6 h3 h4 h5 hq3 hp hno hs9
   rcases (show q1 = false ∨ (q1 = true ∧ q2 = false) ∨ (q1 = true ∧ q2 = true ∧ q3 = false) ∨ (q1 = true ∧ q2 = true ∧ q3 = true ∧ q4 = false) ∨ (q1 = true ∧ q2 = true ∧ q3 = true ∧ q4 = true) from by cases q1 <;> cases q2 <;> cases q3 <;> cases q4 <;> simp) with rfl | ⟨rfl, rfl⟩ | ⟨rfl, rfl, rfl⟩ | ⟨rfl, rfl, rfl, rfl⟩ | ⟨rfl, rfl, rfl, rfl⟩
   ·have HR := Lib.hid (HNo.out (by rw [HPx.out]; rfl))
    clear HNo HPx
    go_wp2_with (first
     | (go_at_call 26; first
     | ((with_reducible refine (H3x.out _ HV1.out.hz).mono ?_); rintro e w2 ⟨rfl, hb⟩; have HA3 := Lib.hid (ab_new w2 50 fa); have HV2 := Lib.hid ((HV1.out.up hb).up (below_alloc_new (.cells #[.int .i64 fa.code, .int .i64 fa.kind, .int .i64 fa.basis, .int .i64 fa.par] 50))); have HL2 := Lib.hid ((HL1.out.up hb).up (below_alloc_new (.cells #[.int .i64 fa.code, .int .i64 fa.kind, .int .i64 fa.basis, .int .i64 fa.par] 50))); have HB2 := Lib.hid ((HB1.out.trans (hb.mono HSZ1.out)).alloc (Nat.le_trans HSZ1.out hb.size) (.cells #[.int .i64 fa.code, .int .i64 fa.kind, .int .i64 fa.basis, .int .i64 fa.par] 50)); have HSZ2 : Hid (s0 ≤ (w2.alloc (.cells #[.int .i64 fa.code, .int .i64 fa.kind, .int .i64 fa.basis, .int .i64 fa.par] 50)).heap.size) := Lib.hid (Nat.le_trans (Nat.le_trans HSZ1.out hb.size) (by (simp))); clear hb v0 v1 v2 vlt y0 y1 y2 y3 y4 ylt; obtain ⟨⟨v0, v1, v2⟩, vlt⟩ := HL2.out; simp only [Nat.zero_add] at v1 v2; obtain ⟨y0, y1, y2, y3, y4, ylt⟩ := HV2.out.eb)
     | ((with_reducible refine (H4x.out _ HV2.out.hx).mono ?_); rintro e w3 ⟨rfl, hb⟩; have HA4 := Lib.hid ((HA3.out.up hb).up (below_alloc_new (.cells #[.int .i64 fb.code, .int .i64 fb.kind, .int .i64 fb.basis, .int .i64 fb.par] 50))); have HA5 := Lib.hid (ab_new w3 50 fb); have HV3 := Lib.hid ((HV2.out.up hb).up (below_alloc_new (.cells #[.int .i64 fb.code, .int .i64 fb.kind, .int .i64 fb.basis, .int .i64 fb.par] 50))); have HL3 := Lib.hid ((HL2.out.up hb).up (below_alloc_new (.cells #[.int .i64 fb.code, .int .i64 fb.kind, .int .i64 fb.basis, .int .i64 fb.par] 50))); have HB3 := Lib.hid ((HB2.out.trans (hb.mono HSZ2.out)).alloc (Nat.le_trans HSZ2.out hb.size) (.cells #[.int .i64 fb.code, .int .i64 fb.kind, .int .i64 fb.basis, .int .i64 fb.par] 50)); clear hb v0 v1 v2 vlt y0 y1 y2 y3 y4 ylt; obtain ⟨⟨v0, v1, v2⟩, vlt⟩ := HL3.out; simp only [Nat.zero_add] at v1 v2; obtain ⟨y0, y1, y2, y3, y4, ylt⟩ := HV3.out.eb; obtain ⟨⟨x0, x1, x2, x3⟩, xlt⟩ := HA4.out; obtain ⟨⟨z0, z1, z2, z3⟩, zlt⟩ := HA5.out; simp only [Nat.zero_add] at x1 x2 x3 z1 z2 z3))
     | (go_at_call 27; (with_reducible refine (H5x.out _).mono ?_); rintro e w4 ⟨rfl, rfl⟩))
    go_ret
    exact ⟨by rw [HR.out]; rfl, by first | exact HB3.out | (rw [HS0.out]; exact HB3.out)⟩
   ·have HR := Lib.hid (HNo.out (by rw [HPx.out]; rfl))
    clear HNo HPx
    go_wp2_with (first
     | (go_at_call 26; first
     | ((with_reducible refine (H3x.out _ HV1.out.hz).mono ?_); rintro e w2 ⟨rfl, hb⟩; have HA3 := Lib.hid (ab_new w2 50 fa); have HV2 := Lib.hid ((HV1.out.up hb).up (below_alloc_new (.cells #[.int .i64 fa.code, .int .i64 fa.kind, .int .i64 fa.basis, .int .i64 fa.par] 50))); have HL2 := Lib.hid ((HL1.out.up hb).up (below_alloc_new (.cells #[.int .i64 fa.code, .int .i64 fa.kind, .int .i64 fa.basis, .int .i64 fa.par] 50))); have HB2 := Lib.hid ((HB1.out.trans (hb.mono HSZ1.out)).alloc (Nat.le_trans HSZ1.out hb.size) (.cells #[.int .i64 fa.code, .int .i64 fa.kind, .int .i64 fa.basis, .int .i64 fa.par] 50)); have HSZ2 : Hid (s0 ≤ (w2.alloc (.cells #[.int .i64 fa.code, .int .i64 fa.kind, .int .i64 fa.basis, .int .i64 fa.par] 50)).heap.size) := Lib.hid (Nat.le_trans (Nat.le_trans HSZ1.out hb.size) (by (simp))); clear hb v0 v1 v2 vlt y0 y1 y2 y3 y4 ylt; obtain ⟨⟨v0, v1, v2⟩, vlt⟩ := HL2.out; simp only [Nat.zero_add] at v1 v2; obtain ⟨y0, y1, y2, y3, y4, ylt⟩ := HV2.out.eb)
     | ((with_reducible refine (H4x.out _ HV2.out.hx).mono ?_); rintro e w3 ⟨rfl, hb⟩; have HA4 := Lib.hid ((HA3.out.up hb).up (below_alloc_new (.cells #[.int .i64 fb.code, .int .i64 fb.kind, .int .i64 fb.basis, .int .i64 fb.par] 50))); have HA5 := Lib.hid (ab_new w3 50 fb); have HV3 := Lib.hid ((HV2.out.up hb).up (below_alloc_new (.cells #[.int .i64 fb.code, .int .i64 fb.kind, .int .i64 fb.basis, .int .i64 fb.par] 50))); have HL3 := Lib.hid ((HL2.out.up hb).up (below_alloc_new (.cells #[.int .i64 fb.code, .int .i64 fb.kind, .int .i64 fb.basis, .int .i64 fb.par] 50))); have HB3 := Lib.hid ((HB2.out.trans (hb.mono HSZ2.out)).alloc (Nat.le_trans HSZ2.out hb.size) (.cells #[.int .i64 fb.code, .int .i64 fb.kind, .int .i64 fb.basis, .int .i64 fb.par] 50)); clear hb v0 v1 v2 vlt y0 y1 y2 y3 y4 ylt; obtain ⟨⟨v0, v1, v2⟩, vlt⟩ := HL3.out; simp only [Nat.zero_add] at v1 v2; obtain ⟨y0, y1, y2, y3, y4, ylt⟩ := HV3.out.eb; obtain ⟨⟨x0, x1, x2, x3⟩, xlt⟩ := HA4.out; obtain ⟨⟨z0, z1, z2, z3⟩, zlt⟩ := HA5.out; simp only [Nat.zero_add] at x1 x2 x3 z1 z2 z3))
     | (go_at_call 27; (with_reducible refine (H5x.out _).mono ?_); rintro e w4 ⟨rfl, rfl⟩))
    go_ret
    exact ⟨by rw [HR.out]; rfl, by first | exact HB3.out | (rw [HS0.out]; exact HB3.out)⟩
   ·have HR := Lib.hid (HNo.out (by rw [HPx.out]; rfl))
    clear HNo HPx
    go_wp2_with (first
     | (go_at_call 26; first
     | ((with_reducible refine (H3x.out _ HV1.out.hz).mono ?_); rintro e w2 ⟨rfl, hb⟩; have HA3 := Lib.hid (ab_new w2 50 fa); have HV2 := Lib.hid ((HV1.out.up hb).up (below_alloc_new (.cells #[.int .i64 fa.code, .int .i64 fa.kind, .int .i64 fa.basis, .int .i64 fa.par] 50))); have HL2 := Lib.hid ((HL1.out.up hb).up (below_alloc_new (.cells #[.int .i64 fa.code, .int .i64 fa.kind, .int .i64 fa.basis, .int .i64 fa.par] 50))); have HB2 := Lib.hid ((HB1.out.trans (hb.mono HSZ1.out)).alloc (Nat.le_trans HSZ1.out hb.size) (.cells #[.int .i64 fa.code, .int .i64 fa.kind, .int .i64 fa.basis, .int .i64 fa.par] 50)); have HSZ2 : Hid (s0 ≤ (w2.alloc (.cells #[.int .i64 fa.code, .int .i64 fa.kind, .int .i64 fa.basis, .int .i64 fa.par] 50)).heap.size) := Lib.hid (Nat.le_trans (Nat.le_trans HSZ1.out hb.size) (by (simp))); clear hb v0 v1 v2 vlt y0 y1 y2 y3 y4 ylt; obtain ⟨⟨v0, v1, v2⟩, vlt⟩ := HL2.out; simp only [Nat.zero_add] at v1 v2; obtain ⟨y0, y1, y2, y3, y4, ylt⟩ := HV2.out.eb)
     | ((with_reducible refine (H4x.out _ HV2.out.hx).mono ?_); rintro e w3 ⟨rfl, hb⟩; have HA4 := Lib.hid ((HA3.out.up hb).up (below_alloc_new (.cells #[.int .i64 fb.code, .int .i64 fb.kind, .int .i64 fb.basis, .int .i64 fb.par] 50))); have HA5 := Lib.hid (ab_new w3 50 fb); have HV3 := Lib.hid ((HV2.out.up hb).up (below_alloc_new (.cells #[.int .i64 fb.code, .int .i64 fb.kind, .int .i64 fb.basis, .int .i64 fb.par] 50))); have HL3 := Lib.hid ((HL2.out.up hb).up (below_alloc_new (.cells #[.int .i64 fb.code, .int .i64 fb.kind, .int .i64 fb.basis, .int .i64 fb.par] 50))); have HB3 := Lib.hid ((HB2.out.trans (hb.mono HSZ2.out)).alloc (Nat.le_trans HSZ2.out hb.size) (.cells #[.int .i64 fb.code, .int .i64 fb.kind, .int .i64 fb.basis, .int .i64 fb.par] 50)); clear hb v0 v1 v2 vlt y0 y1 y2 y3 y4 ylt; obtain ⟨⟨v0, v1, v2⟩, vlt⟩ := HL3.out; simp only [Nat.zero_add] at v1 v2; obtain ⟨y0, y1, y2, y3, y4, ylt⟩ := HV3.out.eb; obtain ⟨⟨x0, x1, x2, x3⟩, xlt⟩ := HA4.out; obtain ⟨⟨z0, z1, z2, z3⟩, zlt⟩ := HA5.out; simp only [Nat.zero_add] at x1 x2 x3 z1 z2 z3))
     | (go_at_call 27; (with_reducible refine (H5x.out _).mono ?_); rintro e w4 ⟨rfl, rfl⟩))
    go_ret
    exact ⟨by rw [HR.out]; rfl, by first | exact HB3.out | (rw [HS0.out]; exact HB3.out)⟩
   ·have HR := Lib.hid (HNo.out (by rw [HPx.out]; rfl))
    clear HNo HPx
    go_wp2_with (first
     | (go_at_call 26; first
     | ((with_reducible refine (H3x.out _ HV1.out.hz).mono ?_); rintro e w2 ⟨rfl, hb⟩; have HA3 := Lib.hid (ab_new w2 50 fa); have HV2 := Lib.hid ((HV1.out.up hb).up (below_alloc_new (.cells #[.int .i64 fa.code, .int .i64 fa.kind, .int .i64 fa.basis, .int .i64 fa.par] 50))); have HL2 := Lib.hid ((HL1.out.up hb).up (below_alloc_new (.cells #[.int .i64 fa.code, .int .i64 fa.kind, .int .i64 fa.basis, .int .i64 fa.par] 50))); have HB2 := Lib.hid ((HB1.out.trans (hb.mono HSZ1.out)).alloc (Nat.le_trans HSZ1.out hb.size) (.cells #[.int .i64 fa.code, .int .i64 fa.kind, .int .i64 fa.basis, .int .i64 fa.par] 50)); have HSZ2 : Hid (s0 ≤ (w2.alloc (.cells #[.int .i64 fa.code, .int .i64 fa.kind, .int .i64 fa.basis, .int .i64 fa.par] 50)).heap.size) := Lib.hid (Nat.le_trans (Nat.le_trans HSZ1.out hb.size) (by (simp))); clear hb v0 v1 v2 vlt y0 y1 y2 y3 y4 ylt; obtain ⟨⟨v0, v1, v2⟩, vlt⟩ := HL2.out; simp only [Nat.zero_add] at v1 v2; obtain ⟨y0, y1, y2, y3, y4, ylt⟩ := HV2.out.eb)
     | ((with_reducible refine (H4x.out _ HV2.out.hx).mono ?_); rintro e w3 ⟨rfl, hb⟩; have HA4 := Lib.hid ((HA3.out.up hb).up (below_alloc_new (.cells #[.int .i64 fb.code, .int .i64 fb.kind, .int .i64 fb.basis, .int .i64 fb.par] 50))); have HA5 := Lib.hid (ab_new w3 50 fb); have HV3 := Lib.hid ((HV2.out.up hb).up (below_alloc_new (.cells #[.int .i64 fb.code, .int .i64 fb.kind, .int .i64 fb.basis, .int .i64 fb.par] 50))); have HL3 := Lib.hid ((HL2.out.up hb).up (below_alloc_new (.cells #[.int .i64 fb.code, .int .i64 fb.kind, .int .i64 fb.basis, .int .i64 fb.par] 50))); have HB3 := Lib.hid ((HB2.out.trans (hb.mono HSZ2.out)).alloc (Nat.le_trans HSZ2.out hb.size) (.cells #[.int .i64 fb.code, .int .i64 fb.kind, .int .i64 fb.basis, .int .i64 fb.par] 50)); clear hb v0 v1 v2 vlt y0 y1 y2 y3 y4 ylt; obtain ⟨⟨v0, v1, v2⟩, vlt⟩ := HL3.out; simp only [Nat.zero_add] at v1 v2; obtain ⟨y0, y1, y2, y3, y4, ylt⟩ := HV3.out.eb; obtain ⟨⟨x0, x1, x2, x3⟩, xlt⟩ := HA4.out; obtain ⟨⟨z0, z1, z2, z3⟩, zlt⟩ := HA5.out; simp only [Nat.zero_add] at x1 x2 x3 z1 z2 z3))
     | (go_at_call 27; (with_reducible refine (H5x.out _).mono ?_); rintro e w4 ⟨rfl, rfl⟩))
    go_ret
    exact ⟨by rw [HR.out]; rfl, by first | exact HB3.out | (rw [HS0.out]; exact HB3.out)⟩
   ·have HP2 : Hid (allTo P (k + 1) = true) := Lib.hid (by show (allTo P k && P k) = true; rw [HA.out, HPx.out]; rfl)
    clear HNo HPx
    go_wp2_with (first
     | (go_at_call 26; first
     | ((with_reducible refine (H3x.out _ HV1.out.hz).mono ?_); rintro e w2 ⟨rfl, hb⟩; have HA3 := Lib.hid (ab_new w2 50 fa); have HV2 := Lib.hid ((HV1.out.up hb).up (below_alloc_new (.cells #[.int .i64 fa.code, .int .i64 fa.kind, .int .i64 fa.basis, .int .i64 fa.par] 50))); have HL2 := Lib.hid ((HL1.out.up hb).up (below_alloc_new (.cells #[.int .i64 fa.code, .int .i64 fa.kind, .int .i64 fa.basis, .int .i64 fa.par] 50))); have HB2 := Lib.hid ((HB1.out.trans (hb.mono HSZ1.out)).alloc (Nat.le_trans HSZ1.out hb.size) (.cells #[.int .i64 fa.code, .int .i64 fa.kind, .int .i64 fa.basis, .int .i64 fa.par] 50)); have HSZ2 : Hid (s0 ≤ (w2.alloc (.cells #[.int .i64 fa.code, .int .i64 fa.kind, .int .i64 fa.basis, .int .i64 fa.par] 50)).heap.size) := Lib.hid (Nat.le_trans (Nat.le_trans HSZ1.out hb.size) (by (simp))); clear hb v0 v1 v2 vlt y0 y1 y2 y3 y4 ylt; obtain ⟨⟨v0, v1, v2⟩, vlt⟩ := HL2.out; simp only [Nat.zero_add] at v1 v2; obtain ⟨y0, y1, y2, y3, y4, ylt⟩ := HV2.out.eb)
     | ((with_reducible refine (H4x.out _ HV2.out.hx).mono ?_); rintro e w3 ⟨rfl, hb⟩; have HA4 := Lib.hid ((HA3.out.up hb).up (below_alloc_new (.cells #[.int .i64 fb.code, .int .i64 fb.kind, .int .i64 fb.basis, .int .i64 fb.par] 50))); have HA5 := Lib.hid (ab_new w3 50 fb); have HV3 := Lib.hid ((HV2.out.up hb).up (below_alloc_new (.cells #[.int .i64 fb.code, .int .i64 fb.kind, .int .i64 fb.basis, .int .i64 fb.par] 50))); have HL3 := Lib.hid ((HL2.out.up hb).up (below_alloc_new (.cells #[.int .i64 fb.code, .int .i64 fb.kind, .int .i64 fb.basis, .int .i64 fb.par] 50))); have HB3 := Lib.hid ((HB2.out.trans (hb.mono HSZ2.out)).alloc (Nat.le_trans HSZ2.out hb.size) (.cells #[.int .i64 fb.code, .int .i64 fb.kind, .int .i64 fb.basis, .int .i64 fb.par] 50)); clear hb v0 v1 v2 vlt y0 y1 y2 y3 y4 ylt; obtain ⟨⟨v0, v1, v2⟩, vlt⟩ := HL3.out; simp only [Nat.zero_add] at v1 v2; obtain ⟨y0, y1, y2, y3, y4, ylt⟩ := HV3.out.eb; obtain ⟨⟨x0, x1, x2, x3⟩, xlt⟩ := HA4.out; obtain ⟨⟨z0, z1, z2, z3⟩, zlt⟩ := HA5.out; simp only [Nat.zero_add] at x1 x2 x3 z1 z2 z3))
     | (go_at_call 27; (with_reducible refine (H5x.out _).mono ?_); rintro e w4 ⟨rfl, rfl⟩))
    obtain ⟨g6, hg6⟩ : ∃ g6, wr.heap.size = g6 := ⟨_, rfl⟩
    rw [hg6] at HL3 ⊢
    obtain ⟨W3, hW3⟩ : ∃ W3, w3.alloc (.cells #[.int .i64 fb.code, .int .i64 fb.kind, .int .i64 fb.basis, .int .i64 fb.par] 50) = W3 := ⟨_, rfl⟩
    rw [hW3] at HV3 HL3 HB3 ⊢
    clear v0 v1 v2 vlt y0 y1 y2 y3 y4 ylt x0 x1 x2 x3 xlt z0 z1 z2 z3 zlt HV1 HV2 HL1 HL2 HB1 HB2 HA3 HA4 HA5 c0 c1 c2 c3 c4 lt d0 d1 d2 hW3 hg6 HV
    go_loopg [11] k (fun jx s11 W => ∃ j : Nat, s11 = .int .i64 j ∧ j ≤ k ∧ k - j ≤ jx ∧ Hid (allTo (fun t => !S9 k t) j = true) ∧ Hid (V9 W s0 nm cur A n cp (some ⟨b, off, none⟩) m d jt L K C c) ∧ Hid (LB W g6 x) ∧ Below s0 w W)
    case atStart => exact ⟨0, rfl, by omega, by omega, Lib.hid rfl, HV3, HL3, HB3.out⟩
    case round =>
     clear HV3 HL3 HB3
     rename World => W
     obtain ⟨j, rfl, hj, hjx, HJ, HV, HL, hB⟩ := hrel
     obtain ⟨c0, c1, c2, c3, c4, lt⟩ := HV.out.eb
     obtain ⟨⟨v0, v1, v2⟩, vlt⟩ := HL.out
     simp only [Nat.zero_add] at v1 v2
     by_cases hjl : j < k
     ·have hjz : (j : Int) < (k : Int) := by omega
      have hjm : j < m := by omega
      have hjmz : (j : Int) < (m : Int) := by omega
      obtain ⟨b9, off9, eB, hbw, hcs⟩ := HV.out.hy (by rw [HM.out]; omega)
      cases eB
      obtain ⟨d0, d1, d2⟩ := hcs j (by rw [HM.out]; omega)
      have hs9 := HS9.out j
      have hno := HN5.out k j hlt hjl
      obtain ⟨y, hy⟩ : ∃ y, K.getD j lnk0 = y := ⟨_, rfl⟩
      rw [hy] at d0 d1 d2 hs9
      have HBK := Lib.hid hB
      clear hcs hy
      by_cases h1 : y.frm = x.frm
      ·have e1 : (y.frm == x.frm) = true := by simp [h1]
       rw [decide_eq_true h1, Bool.true_and] at hs9
       by_cases h2 : y.since = x.since
       ·have e2 : (y.since == x.since) = true := by simp [h2]
        have HR := Lib.hid (hno (hs9.trans (decide_eq_true h2)))
        clear h1 h2 hs9 hno
        go_wp2_with fail
        go_quiet (fail)
        have hB4 := below_drewN HBK.out nq
        generalize World.drewN _ nq = W8 at *
        go_wp2_with fail
        go_ret
        exact ⟨by rw [HR.out]; rfl, by first | exact hB4 | (rw [HS0.out]; exact hB4)⟩
       ·have e2 : (y.since == x.since) = false := by simp [h2]
        have HJ2 : Hid (allTo (fun t => !S9 k t) (j + 1) = true) := Lib.hid (by show (allTo (fun t => !S9 k t) j && !S9 k j) = true; rw [HJ.out, hs9, decide_eq_false h2]; rfl)
        clear h1 h2 hs9 hno
        go_wp2_with fail
        go_quiet (fail)
        have hB4 := below_drewN HBK.out nq
        have HV4 := Lib.hid (HV.out.up (below_drewN (Below.refl _ _) nq))
        have HL4 := Lib.hid (HL.out.up (below_drewN (Below.refl _ _) nq))
        clear HV HL hB HBK c0 c1 c2 c3 c4 lt v0 v1 v2 vlt d0 d1 d2
        generalize World.drewN _ nq = W8 at *
        go_wp2_with fail
        go_roundg (k - (j + 1))
        case measure => omega
        case rel => exact ⟨j + 1, by go_num, by omega, by omega, HJ2, HV4, HL4, hB4⟩
      ·have e1 : (y.frm == x.frm) = false := by simp [h1]
       have HJ2 : Hid (allTo (fun t => !S9 k t) (j + 1) = true) := Lib.hid (by show (allTo (fun t => !S9 k t) j && !S9 k j) = true; rw [HJ.out, hs9, decide_eq_false h1]; rfl)
       clear h1 hs9 hno
       go_wp2_with fail
       go_quiet (fail)
       have hB4 := below_drewN HBK.out nq
       have HV4 := Lib.hid (HV.out.up (below_drewN (Below.refl _ _) nq))
       have HL4 := Lib.hid (HL.out.up (below_drewN (Below.refl _ _) nq))
       clear HV HL hB HBK c0 c1 c2 c3 c4 lt v0 v1 v2 vlt d0 d1 d2
       generalize World.drewN _ nq = W8 at *
       go_wp2_with fail
       go_roundg (k - (j + 1))
       case measure => omega
       case rel => exact ⟨j + 1, by go_num, by omega, by omega, HJ2, HV4, HL4, hB4⟩
     ·obtain rfl : j = k := by omega
      have hjz : ¬ (j : Int) < (j : Int) := by omega
      have HD2 : Hid (allTo D9 (j + 1) = true) := Lib.hid (by show (allTo D9 j && D9 j) = true; rw [HA9.out, HD.out j]; exact HJ.out)
      go_wp2_with fail
      go_roundg (m - (j + 1))
      case measure => omega
      case rel => exact ⟨j + 1, by go_num, by omega, by omega, HP2, HD2, HV, hB⟩
  ·obtain rfl : k = m := by omega
   have hltz : ¬ (k : Int) < (k : Int) := by omega
   have HR := Lib.hid (HNE2.out HA.out HA9.out)
   go_wp2_with fail
   go_ret
   exact ⟨by rw [HR.out]; rfl, by first | exact hB | (rw [HS0.out]; exact hB)⟩
theorem step_append_row {P : Program} {ops : Array Oper} {o : Oper} {a : Act} {tm : Array Value} {w : World} {K : Act → World → Prop} {Q : Exit → Act → World → Prop} {E : Prop} (hgd : o.guard = none) (s x : Operand) (t : TypeId)
  (ho : o.op = .call { callee := .builtin .append, args := #[s, x], argTypes := #[t, t] })
  (base : Nat) (e : TypeId) (i : TypeInfo) (z : Value) (size bytes : Nat) (ht : P.underlying t = some (.slice e)) (hi : P.info? e = some i) (hz : i.zero = some z)
  (hsize : i.size = size) (hby : i.bytes = bytes) (hzs : z.cells.size = size) (hsz : 0 < size)
  (v : Value) (n : Nat) (xs : List Value) (hs : a.eval s = v) (hown : w.ownsRow base e size v n xs)
  (X : Option Addr) (m c : Nat) (news : List Value) (hx : a.eval x = .slice X m c) (hl : news.length = m * size) (hnews : 0 < m → ∃ ad, X = some ad ∧ ∀ j u, news[j]? = some u → w.cell? (ad.add j) = some u) (h1 : ∀ u ∈ news, u.oneCell' = true)
  (h63 : n + m ≤ maxLen) (hbytes : (n + m) * bytes ≤ 140737488355328) (hbase : base ≤ w.heap.size)
  (h : ∀ v' w', Hid (w'.ownsRow base e size v' (n + m) (xs ++ news)) → Hid (w.grownBy w' v.ownBlock) → K (a.put o.dst v') w') :
  if Region.wanted o (yielded ops tm) = true then Oper.wp P o a w K Q else E := by
 have hw1 : ∀ y, Region.wanted o y = true := fun y => by simp [Region.wanted, hgd]
 rw [if_pos (hw1 _)]
 rcases Nat.eq_zero_or_pos m with h0 | h0
 ·subst h0
  have hne : news = [] := List.eq_nil_of_length_eq_zero (by rw [hl]; simp)
  subst hne
  have hrun : (Builtin.append_ #[t, t] o.type #[v, .slice X 0 c]).run P w = .ok v w := by
   rcases hown.2 with ⟨rfl, h9⟩ | ⟨g, cap, cur, rfl, hb, hg, hn, hcap, hcs, hcur⟩
   ·cases X <;> simp [Builtin.append_, run_underlying ht, sizeOf, typeInfo, hi, Builtin.lenOf, Builtin.firstCells, loadCells, loadCellsFrom]
   ·cases X <;> simp [Builtin.append_, run_underlying ht, sizeOf, typeInfo, hi, Builtin.lenOf, Builtin.firstCells, storeCells, loadCells, loadCellsFrom, hn]
  unfold Oper.wp
  simp [execOp, ho, resolve, invoke, builtin, hs, hx, hrun, Result.andThen]
  exact h v w (Lib.hid (by simpa using hown)) (Lib.hid ⟨rfl, rfl, rfl, Nat.le_refl _, fun _ _ _ => rfl⟩)
 ·obtain ⟨ad, rfl, hn2⟩ := hnews h0
  obtain ⟨v', w', hr, h2, h3, h4, h5⟩ := run_append_own_at (P := P) w base t o.type e i z size bytes ht hi hz hsize hby hzs hsz v n xs hown ad m c news hl hn2 h1 h63 hbytes hbase
  unfold Oper.wp execOp
  simp only [ho, resolve, invoke, builtin, Sem.run_bind, Sem.run_pure, Result.andThen_ok, List.map_toArray, List.map_cons, List.map_nil, hs, hx, hr]
  exact h v' w' (Lib.hid h2) (Lib.hid h3)
theorem step_app_bals {P : Program} {ops : Array Oper} {o : Oper} {a : Act} {tm : Array Value} {w : World} {K : Act → World → Prop} {Q : Exit → Act → World → Prop} {E : Prop} (hgd : o.guard = none) (s x : Operand) (t : TypeId)
  (ho : o.op = .call { callee := .builtin .append, args := #[s, x], argTypes := #[t, t] })
  (base : Nat) (e : TypeId) (i : TypeInfo) (bytes : Nat) (ht : P.underlying t = some (.slice e)) (hi : P.info? e = some i) (hz : i.zero = some (.agg #[.int .i64 0, .int .i64 0])) (hsize : i.size = 2) (hby : i.bytes = bytes) (hb8 : bytes ≤ 16)
  (v : Value) (L : List Bal) (hs : a.eval s = v) (hown : OwnB e w base v L) (X : Option Addr) (m c : Nat) (M : List Bal) (hm : M.length = m) (hx : a.eval x = .slice X m c) (hX : BalAt w X M)
  (hlen : L.length + m ≤ 100000000) (hbase : base ≤ w.heap.size)
  (h : ∀ v' w', Hid (OwnB e w' base v' (L ++ M)) → Hid (w.grownBy w' v.ownBlock) → Below base w w' → K (a.put o.dst v') w') :
  if Region.wanted o (yielded ops tm) = true then Oper.wp P o a w K Q else E := by
 subst hm
 have hbb : (L.length + M.length) * bytes ≤ (L.length + M.length) * 16 := Nat.mul_le_mul_left _ hb8
 refine step_append_row hgd s x t ho base e i (.agg #[.int .i64 0, .int .i64 0]) 2 bytes ht hi hz hsize hby rfl (by decide) v L.length (L.flatMap balC) hs hown X M.length c (M.flatMap balC) hx (balC_len M) ?_ ?_ (by unfold maxLen; omega) (by omega) hbase ?_
 ·intro h0
  obtain ⟨b, off, rfl, hbw, hcs⟩ := hX h0
  refine ⟨_, rfl, fun j u hj => ?_⟩
  have hjl : j < M.length * 2 := by
   rcases Nat.lt_or_ge j (M.length * 2) with h1 | h1
   ·exact h1
   ·rw [List.getElem?_eq_none (by rw [balC_len]; exact h1)] at hj; cases hj
  have hadd : (⟨b, off, none⟩ : Addr).add j = ⟨b, off + j, none⟩ := by unfold Addr.add; split <;> simp_all
  rw [hadd, ← hj]
  rcases Nat.mod_two_eq_zero_or_one j with h2 | h2
  ·obtain ⟨q, rfl⟩ : ∃ q, j = q * 2 := ⟨j / 2, by omega⟩
   rw [(balC_get M q (by omega)).1]
   exact (hcs q (by omega)).c0
  ·obtain ⟨q, rfl⟩ : ∃ q, j = q * 2 + 1 := ⟨j / 2, by omega⟩
   rw [(balC_get M q (by omega)).2, ← Nat.add_assoc]
   exact (hcs q (by omega)).c1
 ·intro u hu
  obtain ⟨d, _, hu⟩ := List.mem_flatMap.1 hu
  simp [balC] at hu
  rcases hu with rfl | rfl <;> rfl
 ·intro v' w' h2 h3
  refine h v' w' (Lib.hid ?_) h3 ((Below.refl base w).grown h3.out hbase (fun j hj => (World.ownsRow.lt hown j hj).1))
  have h4 := h2.out
  rw [← List.flatMap_append, ← List.length_append] at h4
  exact h4
set_option maxRecDepth 20000 in
set_option maxHeartbeats 1600000 in
theorem rsameb_any (A B : Option Addr) (c d : Nat) (zs ys : List Bal) (w : World) (hz : BalAt w A zs) (hy : BalAt w B ys) (hl : zs.length ≤ 100000) (hl2 : ys.length ≤ 100000) :
  Calls Try.prog 20 #[.slice A zs.length c, .slice B ys.length d] w fun e w' => e = .returned (.bool (decide (zs = ys))) ∧ Below w.heap.size w w' := by
 have hB := Below.refl w.heap.size w
 obtain ⟨n, hn⟩ : ∃ n, zs.length = n := ⟨_, rfl⟩
 obtain ⟨m, hm⟩ : ∃ m, ys.length = m := ⟨_, rfl⟩
 rw [hn] at hl ⊢
 rw [hm] at hl2 ⊢
 by_cases hnm : n = m
 ·subst hnm
  have HN := Lib.hid hn
  have HM := Lib.hid hm
  have HZ := Lib.hid hz
  have HY := Lib.hid hy
  clear hn hm hz hy
  have hnn : ((n : Int) != (n : Int)) = false := by simp
  go_enter Try.func20, Try.ntmps20
  go_wp2_with fail
  go_loopg [5] n (fun kx s5 wr => ∃ k : Nat, s5 = .int .i64 k ∧ k ≤ n ∧ n - k ≤ kx ∧ Hid (zs.take k = ys.take k) ∧ Below w.heap.size w wr)
  case atStart => exact ⟨0, rfl, by omega, by omega, Lib.hid (by simp), hB⟩
  case round =>
   clear hB
   obtain ⟨k, rfl, hk, hkx, HT, hB⟩ := hrel
   by_cases hlt : k < n
   ·have hltz : (k : Int) < (n : Int) := by omega
    obtain ⟨b, off, rfl, hbw, hcs⟩ := HZ.out (by rw [HN.out]; omega)
    obtain ⟨b2, off2, rfl, hbw2, hcs2⟩ := HY.out (by rw [HM.out]; omega)
    obtain ⟨c0, c1⟩ := (hcs k (by rw [HN.out]; exact hlt)).up hB hbw
    obtain ⟨d0, d1⟩ := (hcs2 k (by rw [HM.out]; exact hlt)).up hB hbw2
    have ht1 := take_succ_getD (d := bal0) (L := zs) (i := k) (by rw [HN.out]; exact hlt)
    have ht2 := take_succ_getD (d := bal0) (L := ys) (i := k) (by rw [HM.out]; exact hlt)
    generalize zs.getD k bal0 = x at *
    generalize ys.getD k bal0 = y at *
    by_cases hxy : x = y
    ·subst hxy
     have HT2 : Hid (zs.take (k + 1) = ys.take (k + 1)) := Lib.hid (by rw [ht1, ht2, HT.out])
     clear ht1 ht2 hcs hcs2
     go_wp2_with fail
     go_quiet (fail)
     replace hB := below_drewN hB nq
     generalize World.drewN _ nq = W1 at *
     go_wp2_with fail
     go_roundg (n - (k + 1))
     case measure => omega
     case rel => exact ⟨k + 1, by go_num, by omega, by omega, HT2, hB⟩
    ·have hno : Hid (decide (zs = ys) = false) := Lib.hid (decide_eq_false fun e => by
      rw [e, ht2] at ht1
      have := List.append_cancel_left ht1
      simp at this; exact hxy this.symm)
     have hne : x.acct ≠ y.acct ∨ (x.acct = y.acct ∧ x.amt ≠ y.amt) := by
      by_cases h1 : x.acct = y.acct
      ·exact .inr ⟨h1, fun h2 => hxy (by cases x; cases y; simp at h1 h2; rw [h1, h2])⟩
      ·exact .inl h1
     clear ht1 ht2 hcs hcs2 hxy
     rcases hne with h1 | ⟨h1, h2⟩
     ·have q1 : (x.acct == y.acct) = false := by simp [h1]
      clear h1
      go_wp2_with fail
      go_quiet (fail)
      replace hB := below_drewN hB nq
      generalize World.drewN _ nq = W1 at *
      go_wp2_with fail
      go_ret
      exact ⟨by rw [hno.out]; rfl, hB⟩
     ·have q1 : (x.acct == y.acct) = true := by simp [h1]
      have q2 : (x.amt == y.amt) = false := by simp [h2]
      clear h1 h2
      go_wp2_with fail
      go_quiet (fail)
      replace hB := below_drewN hB nq
      generalize World.drewN _ nq = W1 at *
      go_wp2_with fail
      go_ret
      exact ⟨by rw [hno.out]; rfl, hB⟩
   ·obtain rfl : k = n := by omega
    have hltz : ¬ (k : Int) < (k : Int) := by omega
    have hyes : Hid (decide (zs = ys) = true) := Lib.hid (decide_eq_true (by have h := HT.out; rwa [List.take_of_length_le (by rw [HN.out]; omega), List.take_of_length_le (by rw [HM.out]; omega)] at h))
    go_wp2_with fail
    go_ret
    exact ⟨by rw [hyes.out]; rfl, hB⟩
 ·have hno : Hid (decide (zs = ys) = false) := Lib.hid (decide_eq_false fun e => hnm (by rw [← hn, ← hm, e]))
  have hnn : ((n : Int) != (m : Int)) = true := by simp; omega
  clear hn hm hz hy
  go_enter Try.func20, Try.ntmps20
  go_wp2_with fail
  go_ret
  exact ⟨by rw [hno.out]; rfl, hB⟩
theorem bb_o9 (w : World) (t : TypeId) (x : Bal) (o : Obj) : BB ((w.alloc (.cells #[.int .i64 x.acct, .int .i64 x.amt] t)).alloc o) w.heap.size x := (bb_new w t x).up (below_alloc_new o)
theorem bb_n9 (w : World) (t : TypeId) (x : Bal) (o : Obj) : BB ((w.alloc o).alloc (.cells #[.int .i64 x.acct, .int .i64 x.amt] t)) (w.heap.size + 1) x := by
 have h := bb_new (w.alloc o) t x
 have e : (w.alloc o).heap.size = w.heap.size + 1 := by simp
 rwa [e] at h
theorem BB.grown {w w' : World} {g : Nat} {x : Bal} {r : Option Nat} (hg : w.grownBy w' r) (h : BB w g x) (hne : some g ≠ r) : BB w' g x :=
 ⟨⟨hg.cell h.cells.c0 hne, hg.cell h.cells.c1 hne⟩, Nat.lt_of_lt_of_le h.lt hg.size⟩
theorem ownB_second (w : World) (o : Obj) (e : TypeId) : OwnB e ((w.alloc o).alloc (.cells #[] e)) w.heap.size (.slice (some ⟨w.heap.size + 1, 0, none⟩) 0 0) [] := by
 have h := OwnB.empty (e := e) (base := w.heap.size) (w := w.alloc o) (by simp)
 have e1 : (w.alloc o).heap.size = w.heap.size + 1 := by simp
 rwa [e1] at h
set_option maxRecDepth 20000 in
set_option maxHeartbeats 3200000 in
theorem rput9_any (base : Nat) (v : Value) (S : List Bal) (x : Bal) (w : World) (ho : OwnB 71 w base v S) (hbase : base ≤ w.heap.size) (hq : S.length ≤ 1000)
    (hbd : ∀ y ∈ S, -9000000000000000 ≤ y.amt + x.amt ∧ y.amt + x.amt ≤ 9000000000000000) (R : List Bal)
    (hR : ∀ k, k ≤ S.length → (∀ i, i < k → (S.getD i bal0).acct < x.acct) → (k < S.length → x.acct ≤ (S.getD k bal0).acct) → R = if k < S.length ∧ (S.getD k bal0).acct = x.acct then S.set k ⟨x.acct, (S.getD k bal0).amt + x.amt⟩ else S.take k ++ x :: S.drop k) :
    Calls Try.prog 41 #[v, .int .i64 x.acct, .int .i64 x.amt] w fun e w' => ∃ v', e = .returned v' ∧ OwnB 71 w' base v' R ∧ Below base w w' := by
  obtain ⟨i0, hi, hz0, hz1, hz2⟩ := info_parts infoI_bal
  have hB := Below.refl base w
  obtain ⟨A3, cp3, e3, hI3⟩ := ho.slb
  obtain ⟨q, hqq⟩ : ∃ q, S.length = q := ⟨_, rfl⟩
  rw [hqq] at e3 hq
  subst e3
  have HQ := Lib.hid hqq
  have HO := Lib.hid ho
  have HI3 := Lib.hid hI3
  have HBD := Lib.hid hbd
  have HR := Lib.hid hR
  have HBS := Lib.hid hbase
  clear hqq ho hI3 hbd hR hbase
  go_enter Try.func41, Try.ntmps41
  go_wp2_with fail
  go_loopg [7] q (fun jx s7 W => ∃ j : Nat, s7 = .int .i64 j ∧ j ≤ q ∧ q - j ≤ jx ∧ Hid (∀ i, i < j → (S.getD i bal0).acct < x.acct) ∧ W = w)
  case atStart => exact ⟨0, rfl, by omega, by omega, Lib.hid (fun i h => absurd h (by omega)), rfl⟩
  case round =>
    obtain ⟨j, rfl, hj, hjx, HLT, hW⟩ := hrel
    have hW2 := hW.symm
    subst hW2
    by_cases hjq : j < q
    · have hjz : (j : Int) < (q : Int) := by omega
      obtain ⟨g3, cap3, e3, hb3, hg3, hcap⟩ := HO.out.at0 (by rw [HQ.out]; omega)
      have e4 := e3
      rw [HQ.out] at e4
      cases e4
      rw [HQ.out] at hcap
      obtain ⟨b9, off9, e9, -, hc3⟩ := HI3.out (by rw [HQ.out]; omega)
      cases e9
      obtain ⟨p0, p1⟩ := hc3 j (by rw [HQ.out]; exact hjq)
      simp only [Nat.zero_add] at p0 p1
      have hbd := HBD.out _ (getD_mem_acc (d := bal0) (show j < S.length by rw [HQ.out]; exact hjq))
      have hset := HO.out.set (i := j) (by rw [HQ.out]; exact hjq) ((S.getD j bal0).amt + x.amt)
      have hr := HR.out j (by rw [HQ.out]; exact hj) HLT.out
      have hfz := HO.out.fz (j * 2 + 1)
      obtain ⟨y, hy⟩ : ∃ y, S.getD j bal0 = y := ⟨_, rfl⟩
      rw [hy] at p0 p1 hbd hset hr
      have HYE := Lib.hid hy
      clear hc3 hy e3
      by_cases h1 : y.acct = x.acct
      · have e1 : (y.acct == x.acct) = true := by simp [h1]
        have hr2 := hr (fun _ => by omega)
        rw [if_pos ⟨by rw [HQ.out]; exact hjq, h1⟩] at hr2
        rw [h1, ← hr2] at hset
        obtain ⟨Z, hZ⟩ : ∃ Z, y.amt + x.amt = Z := ⟨_, rfl⟩
        have hZw : IntKind.i64.wrap (y.amt + x.amt) = Z := by rw [hZ, IntKind.wrap_i64]; omega
        rw [hZ] at hset
        have HSET := Lib.hid hset
        have hBS : Below base w (w.setCell ⟨g3, j * 2 + 1, none⟩ (.int .i64 Z)) := Below.setCell (p := ⟨g3, j * 2 + 1, none⟩) hB hb3 _
        clear hr hr2 hset hbd hZ h1
        go_wp2_with fail
        go_ret
        exact ⟨_, rfl, HSET.out, hBS⟩
      · have e1 : (y.acct == x.acct) = false := by simp [h1]
        by_cases h2 : x.acct < y.acct
        · have e2 : decide (x.acct < y.acct) = true := decide_eq_true h2
          have hr2 := hr (fun _ => by omega)
          rw [if_neg (fun h => h1 h.2)] at hr2
          have HINS := Lib.hid hr2
          have hDl : (S.take j).length = j := by rw [List.length_take, HQ.out]; omega
          have hDd : (S.drop j).length = q - j := by rw [List.length_drop, HQ.out]
          have hjc : (j : Int) ≤ (cp3 : Int) := by omega
          have hcj : ¬ cp3 = j := by omega
          have HDL := Lib.hid hDl
          have HDD := Lib.hid hDd
          have HT9 := Lib.hid (HI3.out.take j)
          have hd9 := HI3.out.drop j
          rw [Nat.zero_add] at hd9
          have HD9 := Lib.hid hd9
          obtain ⟨T9, hT9⟩ : ∃ T9, S.take j = T9 := ⟨_, rfl⟩
          obtain ⟨D9, hD9⟩ : ∃ D9, S.drop j = D9 := ⟨_, rfl⟩
          rw [hT9] at HDL HT9 HINS
          rw [hD9] at HDD HD9 HINS
          clear hDl hDd hT9 hD9 hd9 hr hr2 hset hbd h1 h2 hfz
          go_wp2_with fail
          go_region_held_law (fun w' => True) (trivial)
            (first
              | (refine step_app_bals rfl (.tmp 40) (.tmp 43) 36 rfl w.heap.size 71 i0 16 Try.underlying36 hi hz0 hz1 hz2 (by omega) (.slice (some ⟨w.heap.size, 0, none⟩) 0 0) [] rfl (by first | exact OwnB.empty (Nat.le_refl _) | exact (OwnB.empty (Nat.le_refl _)).alloc _) (some ⟨g3, 0, none⟩) j _ T9 HDL.out rfl (by first | exact HT9.out.up (dc_drew (below_alloc_new _)) | exact HT9.out.up (dc_drew (below_new (below_alloc_new _) _))) (by first | (simp; done) | (simp; omega)) (by first | (simp; done) | (simp; omega)) ?_
                 intro v5 w5 ho5 hg5 hb5
                 have HB5 : Below w.heap.size w w5 := by first | exact (dc_drew (below_alloc_new _)).trans hb5 | exact (dc_drew (below_new (below_alloc_new _) _)).trans hb5
                 try (have hbx : BB w5 (w.heap.size + 1) x := by first | exact BB.grown hg5.out (bb_n9 _ _ _ _) (by simp [Value.ownBlock]) | exact BB.grown hg5.out (bb_n9 _ _ _ _).drew9 (by simp [Value.ownBlock]))
                 clear hb5 hg5)
              | (refine step_app_bals rfl (.tmp 40) (.tmp 43) 36 rfl w.heap.size 71 i0 16 Try.underlying36 hi hz0 hz1 hz2 (by omega) (.slice (some ⟨w.heap.size + 1, 0, none⟩) 0 0) [] rfl (by first | exact ownB_second _ _ _) (some ⟨g3, 0, none⟩) j _ T9 HDL.out rfl (by first | exact HT9.out.up (dc_drew (below_alloc_new _)) | exact HT9.out.up (dc_drew (below_new (below_alloc_new _) _))) (by first | (simp; done) | (simp; omega)) (by first | (simp; done) | (simp; omega)) ?_
                 intro v5 w5 ho5 hg5 hb5
                 have HB5 : Below w.heap.size w w5 := by first | exact (dc_drew (below_alloc_new _)).trans hb5 | exact (dc_drew (below_new (below_alloc_new _) _)).trans hb5
                 try (have hbx : BB w5 (w.heap.size) x := by first | exact BB.grown hg5.out (bb_o9 _ _ _ _) (by simp [Value.ownBlock]) | exact BB.grown hg5.out (bb_o9 _ _ _ _).drew9 (by simp [Value.ownBlock]))
                 clear hb5 hg5)
              | (refine step_app_bals rfl (.tmp 44) (.tmp 48) 36 rfl w.heap.size 71 i0 16 Try.underlying36 hi hz0 hz1 hz2 (by omega) v5 T9 rfl (by first | exact ho5.out | exact ho5.out.alloc _) (some ⟨_, 0, none⟩) 1 _ [x] rfl rfl (by first | exact hbx.row | exact (bb_new _ _ x).row) (by rw [HDL.out]; omega) (by have := HB5.size; first | exact this | (simp; omega)) ?_
                 intro v6 w6 ho6 hg6 hb6
                 have HB6 : Below w.heap.size w w6 := by first | exact HB5.trans hb6 | exact (below_new HB5 _).trans hb6
                 clear hb6 hg6)
              | (refine step_app_bals rfl (.tmp 49) (.tmp 52) 36 rfl w.heap.size 71 i0 16 Try.underlying36 hi hz0 hz1 hz2 (by omega) v6 (T9 ++ [x]) rfl ho6.out (some ⟨g3, j * 2, none⟩) _ _ D9 HDD.out rfl (HD9.out.up HB6) (by rw [List.length_append, HDL.out]; first | (simp; done) | (simp; omega)) HB6.size ?_
                 intro v7 w7 ho7 hg7 hb7
                 have HB7 := HB6.trans hb7
                 clear hb7 hg7))
          all_goals
            have HO7 : Hid (OwnB 71 w7 base v7 R) := Lib.hid (by rw [HINS.out]; have h9 := ho7.out.low HBS.out; simpa using h9)
            have hB7 : Below base w w7 := HB7.mono HBS.out
            clear ho5 ho6 ho7 HB5 HB6 HB7
            go_wp2_with fail
            go_ret
            exact ⟨v7, by simp, HO7.out, hB7⟩
        · have e2 : decide (x.acct < y.acct) = false := decide_eq_false h2
          have HLT2 : Hid (∀ i, i < j + 1 → (S.getD i bal0).acct < x.acct) := Lib.hid (fun i hi => by
            rcases Nat.lt_or_ge i j with h9 | h9
            · exact HLT.out i h9
            · obtain rfl : i = j := by omega
              rw [HYE.out]; omega)
          clear h1 h2 hr hset hbd hfz
          go_wp2_with fail
          go_roundg (q - (j + 1))
          case measure => omega
          case rel => exact ⟨j + 1, by go_num, by omega, by omega, HLT2, rfl⟩
    · obtain rfl : j = q := by omega
      have hjz : ¬ (j : Int) < (j : Int) := by omega
      have hr := HR.out j (by rw [HQ.out]; exact hj) HLT.out (fun h => by rw [HQ.out] at h; omega)
      rw [if_neg (fun h => by have := h.1; rw [HQ.out] at this; omega), ← HQ.out, List.take_length, List.drop_length] at hr
      have HINS := Lib.hid hr
      have hln : Hid (S.length ≤ 100000000) := Lib.hid (by rw [HQ.out]; omega)
      clear hr
      go_wp2_with (at_builtin; refine wpList_append_bg _ rfl (.tmp 54) (.tmp 58) 36 rfl base 71 i0 16 Try.underlying36 hi hz0 hz1 hz2 (by omega) (.slice A3 j cp3) _ (by rfl) HO.out x.acct x.amt _ 1 (by first | rfl | simp) rfl hln.out HBS.out ?_; intro v2 w4 ho2 hb2; replace ho2 := ho2.out; rw [← HINS.out] at ho2; replace ho2 := Lib.hid ho2)
      go_ret
      exact ⟨_, rfl, ho2.out, hb2⟩
set_option maxRecDepth 20000 in
theorem camt9_any (n : Int) (w : World) : Calls Try.prog 53 #[.int .i64 n] w fun e w' => e = .returned (.bool (amtB n)) ∧ w = w' := by
 unfold amtB
 rcases Int.lt_or_le n (-1000000000000) with h | h
 ·have h1 : decide (-1000000000000 ≤ n) = false := decide_eq_false (by omega)
  rw [h1]
  go_enter Try.func53, Try.ntmps53
  go_wp2_with fail
  go_ret
  exact ⟨rfl, rfl⟩
 ·have h1 : decide (-1000000000000 ≤ n) = true := decide_eq_true h
  rw [h1]
  go_enter Try.func53, Try.ntmps53
  go_wp2_with fail
  go_ret
  exact ⟨rfl, rfl⟩
abbrev sumV (g r : Int) : Value := .agg #[.int .i64 g, .int .i64 r]
structure SumZ (g r z : Int) : Prop where
 eq : g * 1000000000000 + r = z
 lo : -1000000000000 < r
 hi : r < 1000000000000
theorem two_at (w : World) (a b : Int) (t : TypeId) : (w.alloc (.cells #[.int .i64 a, .int .i64 b] t)).cell? ⟨w.heap.size, 0, none⟩ = some (.int .i64 a) ∧ (w.alloc (.cells #[.int .i64 a, .int .i64 b] t)).cell? ⟨w.heap.size, 1, none⟩ = some (.int .i64 b) := by
 constructor <;> (simp only [World.cell?]; rw [heap_alloc_new]; rfl)
theorem two_fz (w : World) (a b : Int) (t : TypeId) (i : Nat) : (w.alloc (.cells #[.int .i64 a, .int .i64 b] t)).frozen? ⟨w.heap.size, i, none⟩ = false := by
 simp only [World.frozen?]; rw [heap_alloc_new]; simp
def plusG (g r a : Int) : Int := g + (r + a).tdiv 1000000000000
def plusR (r a : Int) : Int := (r + a).tmod 1000000000000
theorem plus_z {g r z a : Int} (h : SumZ g r z) : SumZ (plusG g r a) (plusR r a) (z + a) := by
 have h1 := Int.mul_tdiv_add_tmod (r + a) 1000000000000
 have h2 : (r + a).tmod 1000000000000 < 1000000000000 := Int.tmod_lt_of_pos _ (by omega)
 have h3 : -1000000000000 < (r + a).tmod 1000000000000 := by
  have := Int.tmod_lt_of_pos (-(r + a)) (show (0 : Int) < 1000000000000 by omega)
  rw [Int.neg_tmod] at this; omega
 obtain ⟨he, _, _⟩ := h
 unfold plusG plusR
 exact ⟨by rw [Int.add_mul]; omega, h3, h2⟩
theorem plus_bd {g r a : Int} (hr : -1000000000000 < r ∧ r < 1000000000000) (ha : -1000000000000 ≤ a ∧ a ≤ 1000000000000) : g - 2 ≤ plusG g r a ∧ plusG g r a ≤ g + 2 := by
 have h1 := Int.mul_tdiv_add_tmod (r + a) 1000000000000
 have h2 : (r + a).tmod 1000000000000 < 1000000000000 := Int.tmod_lt_of_pos _ (by omega)
 have h3 : -1000000000000 < (r + a).tmod 1000000000000 := by
  have := Int.tmod_lt_of_pos (-(r + a)) (show (0 : Int) < 1000000000000 by omega)
  rw [Int.neg_tmod] at this; omega
 unfold plusG
 generalize (r + a).tdiv 1000000000000 = q at *
 generalize (r + a).tmod 1000000000000 = p at *
 omega
set_option maxRecDepth 20000 in
set_option maxHeartbeats 1600000 in
theorem cplus_any (g r a : Int) (w : World) (hg : -1000000 ≤ g ∧ g ≤ 1000000) (hr : -1000000000000 < r ∧ r < 1000000000000) (ha : -1000000000000 ≤ a ∧ a ≤ 1000000000000) :
  Calls Try.prog 38 #[sumV g r, .int .i64 a] w fun e w' => e = .returned (sumV (plusG g r a) (plusR r a)) ∧ Below w.heap.size w w' := by
 have hbd := plus_bd (g := g) hr ha
 have hB := ((Below.refl w.heap.size w).alloc (Nat.le_refl _) (.cells #[.int .i64 g, .int .i64 r] 73)).alloc (by simp) (.cells #[.int .i64 0, .int .i64 0] 73)
 obtain ⟨c0, c1⟩ := two_at w g r 73
 obtain ⟨d0, d1⟩ := two_at (w.alloc (.cells #[.int .i64 g, .int .i64 r] 73)) 0 0 73
 have f0 := two_fz (w.alloc (.cells #[.int .i64 g, .int .i64 r] 73)) 0 0 73 0
 have f1 := two_fz (w.alloc (.cells #[.int .i64 g, .int .i64 r] 73)) 0 0 73 1
 have hup := below_alloc_new (w := w.alloc (.cells #[.int .i64 g, .int .i64 r] 73)) (.cells #[.int .i64 0, .int .i64 0] 73)
 replace c0 := (hup.cell (p := ⟨w.heap.size, 0, none⟩) (by simp)).trans c0
 replace c1 := (hup.cell (p := ⟨w.heap.size, 1, none⟩) (by simp)).trans c1
 have hgq := hbd
 unfold plusG at hgq
 unfold plusG plusR
 obtain ⟨s, hs⟩ : ∃ s, r + a = s := ⟨_, rfl⟩
 rw [hs] at hgq ⊢
 have hs1 : -2000000000000 < s ∧ s < 2000000000000 := by omega
 have hw1 : IntKind.i64.wrap (r + a) = s := by rw [hs, IntKind.wrap_i64]; omega
 obtain ⟨q, hq⟩ : ∃ q, s.tdiv 1000000000000 = q := ⟨_, rfl⟩
 obtain ⟨p, hp⟩ : ∃ p, s.tmod 1000000000000 = p := ⟨_, rfl⟩
 rw [hq] at hgq ⊢
 rw [hp]
 have hq2 : IntKind.i64.wrap (s.tdiv 1000000000000) = q := by rw [hq, IntKind.wrap_i64]; omega
 obtain ⟨g2, hg2⟩ : ∃ g2, g + q = g2 := ⟨_, rfl⟩
 rw [hg2] at hgq ⊢
 have hw3 : IntKind.i64.wrap (g + q) = g2 := by rw [hg2, IntKind.wrap_i64]; omega
 have hnz : ¬ (1000000000000 : Int) = 0 := by decide
 clear hs hq hg2 hgq hs1 hbd hg hr ha
 go_enter Try.func38, Try.ntmps38
 go_wp2_with fail
 obtain ⟨y0, y1⟩ := two_at (w.alloc (.cells #[.int .i64 g, .int .i64 r] 73)) g2 p 73
 have e9 : (w.alloc (.cells #[.int .i64 g, .int .i64 r] 73)).heap.size = w.heap.size + 1 := by simp
 rw [e9] at y0 y1
 exact bodyPost_ret (v := sumV g2 p) (by simp [results, Try.results38, go_sem, y0, y1]) rfl ⟨rfl, ((Below.refl w.heap.size w).alloc (Nat.le_refl _) (.cells #[.int .i64 g, .int .i64 r] 73)).alloc (by simp) (.cells #[.int .i64 g2, .int .i64 p] 73)⟩
set_option maxRecDepth 20000 in
set_option maxHeartbeats 1600000 in
theorem camount_any (g r z : Int) (w : World) (h : SumZ g r z) :
  Calls Try.prog 55 #[sumV g r] w fun e w' => e = .returned (.tuple #[.int .i64 (if amtB z = true then z else 0), .bool (amtB z)]) ∧ Below w.heap.size w w' := by
 obtain ⟨he, h1, h2⟩ := h
 obtain ⟨zv, hzv⟩ : ∃ zv, (if amtB z = true then z else 0) = zv := ⟨_, rfl⟩
 obtain ⟨q, hq⟩ : ∃ q, amtB z = q := ⟨_, rfl⟩
 rw [hzv, hq]
 rw [hq] at hzv
 have HQ := Lib.hid hq
 have HZV := Lib.hid hzv
 have hc := fun w => camt9_any z w
 rw [hq] at hc
 clear hq hzv
 have hB := (Below.refl w.heap.size w).alloc (Nat.le_refl _) (.cells #[.int .i64 g, .int .i64 r] 73)
 obtain ⟨c0, c1⟩ := two_at w g r 73
 rcases Int.lt_or_le g (-1) with hg | hg
 ·have hd : decide (g < -1) = true := decide_eq_true hg
  have ha : Hid (q = false) := Lib.hid (by rw [← HQ.out]; unfold amtB; rw [decide_eq_false (by omega)]; rfl)
  obtain rfl := ha.out
  have ev : Hid (zv = 0) := Lib.hid HZV.out.symm
  clear hg he h1 h2 hc ha HQ
  go_enter Try.func55, Try.ntmps55
  go_wp2_with fail
  go_ret2
  exact ⟨by rw [ev.out]; rfl, hB⟩
 have hd : decide (g < -1) = false := decide_eq_false (by omega)
 rcases Int.lt_or_le 1 g with hg2 | hg2
 ·have hd2 : decide (1 < g) = true := decide_eq_true hg2
  have ha : Hid (q = false) := Lib.hid (by rw [← HQ.out]; unfold amtB; rw [decide_eq_false (show ¬ z ≤ 1000000000000 by omega), Bool.and_false])
  obtain rfl := ha.out
  have ev : Hid (zv = 0) := Lib.hid HZV.out.symm
  clear hg hg2 he h1 h2 hc ha HQ
  go_enter Try.func55, Try.ntmps55
  go_wp2_with fail
  go_ret2
  exact ⟨by rw [ev.out]; rfl, hB⟩
 have hd2 : decide (1 < g) = false := decide_eq_false (by omega)
 obtain ⟨t, ht⟩ : ∃ t, g * 1000000000000 = t := ⟨_, rfl⟩
 have hw1 : IntKind.i64.wrap (g * 1000000000000) = t := by rw [ht, IntKind.wrap_i64]; omega
 rw [ht] at he
 have hw2 : IntKind.i64.wrap (t + r) = z := by rw [he, IntKind.wrap_i64]; omega
 clear ht he hg hg2 h1 h2 HQ
 cases q
 ·have ev : Hid (zv = 0) := Lib.hid HZV.out.symm
  have HC := Lib.hid hc
  clear hc
  go_enter Try.func55, Try.ntmps55
  go_wp2_with (go_at_call 53; refine (HC.out _).mono ?_; rintro e w1 ⟨rfl, rfl⟩)
  go_ret2
  exact ⟨by rw [ev.out]; rfl, hB⟩
 ·have ev : Hid (zv = z) := Lib.hid HZV.out.symm
  have HC := Lib.hid hc
  clear hc
  go_enter Try.func55, Try.ntmps55
  go_wp2_with (go_at_call 53; refine (HC.out _).mono ?_; rintro e w1 ⟨rfl, rfl⟩)
  go_ret2
  exact ⟨by rw [ev.out]; rfl, hB⟩
set_option maxRecDepth 20000 in
set_option maxHeartbeats 1600000 in
theorem carasc9_any (B : Option Addr) (d : Nat) (b : List Bal) (w : World) (hy : BalAt w B b) (hm : b.length ≤ 100000) :
  Calls Try.prog 36 #[.slice B b.length d] w fun e w' => e = .returned (.bool (ascB b)) ∧ Below w.heap.size w w' := by
 have hB := Below.refl w.heap.size w
 obtain ⟨m, hm2⟩ : ∃ m, b.length = m := ⟨_, rfl⟩
 have hA0 : ascB b = allTo (ascP b) m := by unfold ascB; rw [hm2]
 rw [hm2] at hm ⊢
 have HM := Lib.hid hm2
 have HY := Lib.hid hy
 have HA0 := Lib.hid hA0
 clear hm2 hy hA0
 go_enter Try.func36, Try.ntmps36
 go_wp2_with fail
 go_loopg [7] m (fun kx s7 wr => ∃ k : Nat, s7 = .int .i64 k ∧ k ≤ m ∧ m - k ≤ kx ∧ Hid (allTo (ascP b) k = true) ∧ Below w.heap.size w wr)
 case atStart => exact ⟨0, rfl, by omega, by omega, Lib.hid rfl, hB⟩
 case round =>
  clear hB
  obtain ⟨k, rfl, hk, hkx, HC, hB⟩ := hrel
  by_cases hlt : k < m
  ·have hltz : (k : Int) < (m : Int) := by omega
   obtain ⟨bb, off, rfl, hbw, hcs⟩ := HY.out (by rw [HM.out]; omega)
   obtain ⟨c0, c1⟩ := (hcs k (by rw [HM.out]; exact hlt)).up hB hbw
   have hno := fun h => HA0.out.trans (allTo_no (p := ascP b) (k := k) (n := m) hlt h)
   have hyes : allTo (ascP b) (k + 1) = ascP b k := by rw [allTo, HC.out, Bool.true_and]
   have hp : ascP b k = ((decide (k = 0) || decide ((b.getD (k - 1) bal0).acct < (b.getD k bal0).acct)) && amtB (b.getD k bal0).amt) := rfl
   generalize b.getD k bal0 = x at *
   have ha := fun w => camt9_any x.amt w
   have hB1 := below_new hB (.cells #[.int .i64 x.acct, .int .i64 x.amt] 71)
   have HB1 := Lib.hid hB1
   obtain ⟨⟨z0, z1⟩, zlt⟩ := bb_new wr 71 x
   simp only [Nat.zero_add] at z1
   clear hB
   rcases Nat.eq_zero_or_pos k with hk0 | hk0
   ·have e1 : decide (0 < k) = false := decide_eq_false (by omega)
    have e2 : decide ((0 : Int) < (k : Int)) = false := decide_eq_false (by omega)
    rw [decide_eq_true hk0, Bool.true_or, Bool.true_and] at hp
    have HNo := Lib.hid hno
    clear hcs hno hk0 hB1
    cases hq : amtB x.amt
    ·skip
     rw [hq] at ha hp
     have HAm := Lib.hid ha
     have E := Lib.hid (HNo.out hp)
     clear ha hp hq hyes
     go_wp2_with fail
     generalize World.alloc wr _ = W7 at *
     go_quiet ((go_at_call 53; exact quiet_one (same_quiet HAm.out)))
     have hB := below_drewN HB1.out nq
     generalize World.drewN _ nq = W1 at *
     go_wp2_with fail
     go_ret
     exact ⟨by rw [E.out]; rfl, hB⟩
    ·skip
     rw [hq] at ha hp
     have HAm := Lib.hid ha
     have HC2 := Lib.hid (hyes.trans hp)
     clear ha hp hq hyes
     go_wp2_with fail
     generalize World.alloc wr _ = W7 at *
     go_quiet ((go_at_call 53; exact quiet_one (same_quiet HAm.out)))
     have hB := below_drewN HB1.out nq
     generalize World.drewN _ nq = W1 at *
     go_wp2_with fail
     go_roundg (m - (k + 1))
     case measure => omega
     case rel => exact ⟨k + 1, by go_num, by omega, by omega, HC2, hB⟩
   ·obtain ⟨j, hj⟩ : ∃ j, k = j + 1 := ⟨k - 1, by omega⟩
    have hjm : j < m := by omega
    have hjz : (j : Int) < (m : Int) := by omega
    have hj1 : (k : Int) - 1 = (j : Int) := by omega
    have hj2 : IntKind.i64.wrap (j : Int) = (j : Int) := IntWalk.i64_in _ (by omega)
    have e1 : decide (0 < k) = true := decide_eq_true (by omega)
    have e2 : decide ((0 : Int) < (k : Int)) = true := decide_eq_true (by omega)
    obtain ⟨d0, d1⟩ := (hcs j (by rw [HM.out]; exact hjm)).up hB1 hbw
    rw [decide_eq_false (show ¬ k = 0 by omega), Bool.false_or, show k - 1 = j by omega] at hp
    generalize b.getD j bal0 = y at *
    have HNo := Lib.hid hno
    have HJ := Lib.hid hj
    clear hcs hno hk0 hj hB1
    rcases Int.lt_or_le y.acct x.acct with h1 | h1
    ·have e3 : decide (x.acct ≤ y.acct) = false := decide_eq_false (by omega)
     rw [decide_eq_true h1, Bool.true_and] at hp
     clear h1
     cases hq : amtB x.amt
     ·skip
      rw [hq] at ha hp
      have HAm := Lib.hid ha
      have E := Lib.hid (HNo.out hp)
      clear ha hp hq hyes
      go_wp2_with fail
      generalize World.alloc wr _ = W7 at *
      go_quiet ((go_at_call 53; exact quiet_one (same_quiet HAm.out)))
      have hB := below_drewN HB1.out nq
      generalize World.drewN _ nq = W1 at *
      go_wp2_with fail
      go_ret
      exact ⟨by rw [E.out]; rfl, hB⟩
     ·skip
      rw [hq] at ha hp
      have HAm := Lib.hid ha
      have HC2 := Lib.hid (hyes.trans hp)
      clear ha hp hq hyes
      go_wp2_with fail
      generalize World.alloc wr _ = W7 at *
      go_quiet ((go_at_call 53; exact quiet_one (same_quiet HAm.out)))
      have hB := below_drewN HB1.out nq
      generalize World.drewN _ nq = W1 at *
      go_wp2_with fail
      go_roundg (m - (k + 1))
      case measure => omega
      case rel => exact ⟨k + 1, by go_num, by omega, by omega, HC2, hB⟩
    ·have e3 : decide (x.acct ≤ y.acct) = true := decide_eq_true h1
     rw [decide_eq_false (show ¬ y.acct < x.acct by omega), Bool.false_and] at hp
     have E := Lib.hid (HNo.out hp)
     clear hp hyes ha h1
     go_wp2_with fail
     generalize World.alloc wr _ = W7 at *
     go_quiet (fail)
     have hB := below_drewN HB1.out nq
     generalize World.drewN _ nq = W1 at *
     go_wp2_with fail
     go_ret
     exact ⟨by rw [E.out]; rfl, hB⟩
  ·obtain rfl : k = m := by omega
   have hltz : ¬ (k : Int) < (k : Int) := by omega
   have E : Hid (ascB b = true) := Lib.hid (HA0.out.trans HC.out)
   go_wp2_with fail
   go_ret
   exact ⟨by rw [E.out]; rfl, hB⟩
end Go.Proofs.Ytmahnpbjjadipaa
