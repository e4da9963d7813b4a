/- Contracts and the law of CalendarValid, part 1: what was proved of each, callees first. -/
import Derived.Test.YtdloccpcbcpdgaaProg
import Derived.WalkKit
import Derived.WalkSpells
import Derived.Lib.Hide
import Derived.Deep.QuietTactic
import Derived.BigQuiet
import Derived.Deep.Draws
import Derived.Laws.Rows
import Derived.Laws.CopyOwn
import Derived.Deep.OwnRows
import Derived.Outline
import Derived.Deep.RegionHeld
import Derived.Below
import Derived.StillTail
import Derived.Test.YtdloccpcbcpdgaaLK1
namespace Go.Proofs.Ytdloccpcbcpdgaa
open Go.RowKit
section
variable {k : IntKind} {t : TypeId} {w w' : World} {b o g B : Nat} {L : List Nat}
theorem Blk.lt (h : Blk k t w g L) : g < w.heap.size := by
 rcases Nat.lt_or_ge g w.heap.size with hlt | hge
 ·exact hlt
 ·unfold Blk at h; rw [Array.getElem?_eq_none hge] at h; cases h
end
section
variable {k : IntKind} {t : TypeId} {w w' : World} {g B B' c : Nat} {A : Option Addr} {L : List Nat}
end
theorem dc_drew {B : Nat} {a w : World} (h : Below B a w) : Below B a w.drew := ⟨h.os, h.tape, h.output, h.size, h.block⟩
open Go Go.RowKit
def Fact.triv : Fact := ⟨fun _ _ => True, fun _ _ _ _ _ => trivial⟩
def look : List (Nat × Fact) → Nat → Fact
 | [], _ => Fact.triv
 | (k, f) :: rest, d => bif Nat.beq k d then f else look rest d
def factOf (FL : List (Nat × Fact)) (dst : Option Nat) (v : Value) (w : World) : Prop := match dst with
 | none => True
 | some d => (look FL d).p v w
def fillL (u : Nat → Value) : List Nat → Array Value → Array Value
 | [], t => t
 | d :: ds, t => fillL u ds (t.setIfInBounds d (u d))
def upd (u : Nat → Value) (d : Option Nat) (v : Value) (n : Nat) : Value := match d with
 | none => u n
 | some d => if n = d then v else u n
theorem fillL_size (u : Nat → Value) (ds : List Nat) : ∀ t : Array Value, (fillL u ds t).size = t.size := by
 induction ds with
 | nil => intro t; rfl
 | cons d ds ih => intro t; rw [fillL, ih]; simp
theorem fillL_get (u : Nat → Value) (ds : List Nat) : ∀ (t : Array Value) (n : Nat), (fillL u ds t)[n]? = if n < t.size then (if n ∈ ds then some (u n) else t[n]?) else none := by
 induction ds with
 | nil => intro t n; by_cases h : n < t.size <;> simp [fillL, h]
 | cons d ds ih =>
  intro t n
  rw [fillL, ih]
  by_cases h : n < t.size
  ·simp only [Array.size_setIfInBounds, h, if_true, List.mem_cons]
   by_cases h1 : n ∈ ds
   ·simp [h1]
   ·by_cases h2 : n = d
    ·subst h2; simp [h1, h]
    ·simp only [h1, h2, if_false, or_self]; rw [Array.getElem?_setIfInBounds_ne (Ne.symm h2)]
  ·simp [h]
theorem fillL_upd (u : Nat → Value) (ds : List Nat) (t : Array Value) (d : Nat) (v : Value) (hd : d ∈ ds) : (fillL u ds t).setIfInBounds d v = fillL (upd u (some d) v) ds t := by
 apply Array.ext_getElem?
 intro n
 rw [Array.getElem?_setIfInBounds, fillL_get, fillL_get, fillL_size]
 by_cases h : n < t.size
 ·by_cases h2 : d = n
  ·subst h2; simp [h, hd, upd]
  ·simp only [h, h2, if_true, if_false]
   by_cases h3 : n ∈ ds
   ·simp [h3, upd, Ne.symm h2]
   ·simp [h3]
 ·simp only [h, if_false]
  by_cases h2 : d = n
  ·subst h2; simp [h]
  ·simp [h2]
theorem fillL_self (ds : List Nat) (t : Array Value) : fillL (fun d => t.getD d undef) ds t = t := by
 apply Array.ext_getElem?
 intro n
 rw [fillL_get]
 by_cases h : n < t.size
 ·simp [h]
 ·simp [h]
theorem filter_less {p q : Nat → Bool} {i : Nat} (hpi : p i = true) (hqi : q i = false) (h : ∀ j, q j = true → p j = true) : ∀ l : List Nat, i ∈ l → (l.filter q).length < (l.filter p).length := by
 have hle : ∀ l : List Nat, (l.filter q).length ≤ (l.filter p).length := by
  intro l
  induction l with
  | nil => simp
  | cons x l ih =>
   rw [List.filter_cons, List.filter_cons]
   by_cases hq : q x = true
   ·simp [hq, h x hq]; exact ih
   ·by_cases hp : p x = true <;> simp [hq, hp] <;> omega
 intro l hl
 induction l with
 | nil => cases hl
 | cons x l ih =>
  rw [List.filter_cons, List.filter_cons]
  rcases List.mem_cons.1 hl with rfl | hl
  ·simp [hpi, hqi]; have := hle l; omega
  ·have := ih hl
   by_cases hq : q x = true
   ·simp [hq, h x hq]; exact this
   ·by_cases hp : p x = true <;> simp [hq, hp] <;> omega
section
variable {P : Program} {ops : Array Oper} {Q : Exit → Act → World → Prop} {FL : List (Nat × Fact)} {J : World → Prop} {t0 : Array Value} {df : List Deferred} {ds : List Nat}
theorem put_fill (u : Nat → Value) (o : Oper) (v : Value) (hd : ∀ d, o.dst = some d → d ∈ ds) : (⟨fillL u ds t0, df⟩ : Act).put o.dst v = ⟨fillL (upd u o.dst v) ds t0, df⟩ := by
 cases h : o.dst with
 | none => rfl
 | some d =>
  show Act.mk ((fillL u ds t0).setIfInBounds d v) df = _
  rw [fillL_upd _ _ _ _ _ (hd d h)]
theorem none_listed (n j : Nat) : (Array.replicate n false).getD j false = false := by
 by_cases h : j < n <;> simp [h]
end
open Go Go.RowKit
open AS (NoInt)
section
variable {t : TypeId} {w w' : World} {g : Nat} {vs : List Value}
theorem Bx.lt (h : Bx t w g vs) : g < w.heap.size := by
 rcases Nat.lt_or_ge g w.heap.size with hlt | hge
 ·exact hlt
 ·have := h.blk; rw [Array.getElem?_eq_none hge] at this; cases this
theorem Bx.up (h : Bx t w g vs) (hb : Below w.heap.size w w') : Bx t w' g vs := ⟨(hb.block g h.lt).trans h.blk, h.leaf⟩
end
end Go.Proofs.Ytdloccpcbcpdgaa
namespace Go.Proofs.Ytdloccpcbcpdgaa.AS
open Go Go.RowKit
open Go.Proofs.Ytdloccpcbcpdgaa (fillL upd fillL_size fillL_get fillL_upd fillL_self filter_less none_listed put_fill)
theorem Keep.ofBelow {w w' : World} (h : Below w.heap.size w w') : Keep w w' := ⟨h.size, fun i hi _ => h.block i hi, fun _ _ vs _ hb => ⟨vs, rfl, hb.up h⟩⟩
def Fact.triv : Fact := ⟨fun _ _ => True, fun _ _ _ _ _ => trivial⟩
def Fact.is (x : Value) : Fact := ⟨fun v _ => v = x, fun _ _ _ _ h => h⟩
def look : List (Nat × Fact) → Nat → Fact
 | [], _ => Fact.triv
 | (k, f) :: rest, d => bif Nat.beq k d then f else look rest d
def temps (FL : List (Nat × Fact)) : List Nat := FL.map (·.1)
def factOf (FL : List (Nat × Fact)) (dst : Option Nat) (v : Value) (w : World) : Prop := match dst with
 | none => True
 | some d => (look FL d).p v w
def Facts (FL : List (Nat × Fact)) (u : Nat → Value) (w : World) : List Nat → Prop
 | [] => True
 | d :: ds => (look FL d).p (u d) w ∧ Facts FL u w ds
theorem facts_mk {FL : List (Nat × Fact)} {u : Nat → Value} {w : World} {ds : List Nat} (h : ∀ d ∈ ds, (look FL d).p (u d) w) : Facts FL u w ds := by
 induction ds with
 | nil => trivial
 | cons d ds ih => exact ⟨h d (List.mem_cons_self ..), ih fun e he => h e (List.mem_cons_of_mem _ he)⟩
theorem facts_get {FL : List (Nat × Fact)} {u : Nat → Value} {w : World} {ds : List Nat} (h : Facts FL u w ds) (d : Nat) (hd : d ∈ ds) : (look FL d).p (u d) w := by
 induction ds with
 | nil => cases hd
 | cons e ds ih =>
  rcases List.mem_cons.1 hd with rfl | hd
  ·exact h.1
  ·exact ih h.2 hd
def edgesOk (ops : Array Oper) : Bool := (List.range ops.size).all fun i => match ops[i]? with
 | none => true
 | some o => o.after.all fun e => !Region.binds .any e || decide (e.on < i)
def needsOk (ops : Array Oper) (pt : List (List Nat)) (ds : List Nat) : Bool :=
 (List.range ops.size).all fun i => match ops[i]? with
  | none => true
  | some o => (match o.dst with | some d => ds.contains d | none => true) &&
   (pt.getD i []).all fun d => o.after.any fun e => Region.binds .any e && ((match ops[e.on]? with | some o' => o'.dst == some d | none => false) || (pt.getD e.on []).contains d)
def onceOk (ops : Array Oper) : Bool := (List.range ops.size).all fun i => (List.range ops.size).all fun j => match ops[i]?, ops[j]? with
 | some o, some o' => Nat.beq i j || (match o.dst, o'.dst with | some d, some d' => !Nat.beq d d' | _, _ => true)
 | _, _ => true
def storesOk (ops : Array Oper) (pt : List (List Nat)) (st : List Nat) (js : List (List Nat)) : Bool :=
 (List.range st.length).all fun m => decide (st.getD m 0 < ops.size) && (match ops[st.getD m 0]? with | some o => o.dst == none | none => false) &&
  (Nat.beq m 0 || Region.waitsFor .any ops (st.getD m 0) (st.getD (m - 1) 0)) && (js.getD (m + 1) []).all fun d => (pt.getD (st.getD m 0) []).contains d || (js.getD m []).contains d
def waits2 (ops : Array Oper) (s i : Nat) : Bool := Region.waitsFor .any ops s i || (List.range ops.size).any fun j => Region.waitsFor .any ops s j && Region.waitsFor .any ops j i
def limOk (ops : Array Oper) (st lm : List Nat) : Bool :=
 (List.range ops.size).all fun i => Nat.beq (lm.getD i st.length) st.length || waits2 ops (st.getD (lm.getD i st.length) ops.size) i
def allWritten (ops : Array Oper) (ds : List Nat) : Bool := ds.all fun d => ops.any fun o => o.dst == some d
def allocsOk (ops : Array Oper) (al st : List Nat) : Bool := al.all fun d => st.all fun s => (List.range ops.size).any fun i => (match ops[i]? with | some o => o.dst == some d | none => false) && waits2 ops s i
def chk (al : List Nat) (ops : Array Oper) (pt : List (List Nat)) (ds st : List Nat) (js : List (List Nat)) (lm : List Nat) : Bool :=
 allocsOk ops al st && al.all ds.contains && edgesOk ops && needsOk ops pt ds && onceOk ops && storesOk ops pt st js && limOk ops st lm && allWritten ops ds && (js.getD 0 []).isEmpty
section
variable {P : Program} {ops : Array Oper} {Q : Exit → Act → World → Prop} {FL : List (Nat × Fact)} {J : Nat → List Value → World → Prop} {t0 : Array Value} {df : List Deferred} {ds : List Nat}
 {st lm al : List Nat} {js : List (List Nat)} {pt : List (List Nat)}
def aOk (al : List Nat) (dst : Option Nat) (v : Value) (w w' : World) : Prop := match dst with
 | some d => bif al.contains d then v = .pointer (some ⟨w.heap.size, 0, none⟩) ∧ w.heap.size < w'.heap.size else True
 | none => True
def Apart (al : List Nat) (u : Nat → Value) : Prop := ∀ d ∈ al, ∀ d' ∈ al, d ≠ d' → u d ≠ u d'
def StepOk (al : List Nat) (P : Program) (ops : Array Oper) (Q : Exit → Act → World → Prop) (FL : List (Nat × Fact)) (J : Nat → List Value → World → Prop) (js : List (List Nat)) (fr : (Nat → Value) → Array Value) (df : List Deferred) (o : Oper) (need : List Nat) (lim : Nat) : Prop :=
 ∀ (k : Nat) (u : Nat → Value) (w : World), k ≤ lim → J k ((js.getD k []).map u) w → Facts FL u w need → ∀ K : Act → World → Prop, Shut (∀ v w', Below w.heap.size w w' → factOf FL o.dst v w' → aOk al o.dst v w w' → K ((⟨fr u, df⟩ : Act).put o.dst v) w') →
  if Region.wanted o (yielded ops (fr u)) = true then Oper.wp P o ⟨fr u, df⟩ w K Q else K ((⟨fr u, df⟩ : Act).put o.dst undef) w
def StoreOk (al : List Nat) (P : Program) (ops : Array Oper) (Q : Exit → Act → World → Prop) (FL : List (Nat × Fact)) (J : Nat → List Value → World → Prop) (js : List (List Nat)) (fr : (Nat → Value) → Array Value) (df : List Deferred) (o : Oper) (need : List Nat) (k : Nat) : Prop :=
 ∀ (u : Nat → Value) (w : World), J k ((js.getD k []).map u) w → Apart al u → Facts FL u w need → ∀ K : Act → World → Prop, Shut (∀ v w', J (k + 1) ((js.getD (k + 1) []).map u) w' → Keep w w' → K ((⟨fr u, df⟩ : Act).put o.dst v) w') →
  if Region.wanted o (yielded ops (fr u)) = true then Oper.wp P o ⟨fr u, df⟩ w K Q else K ((⟨fr u, df⟩ : Act).put o.dst undef) w
def StepsOk (al : List Nat) (P : Program) (ops : Array Oper) (Q : Exit → Act → World → Prop) (FL : List (Nat × Fact)) (J : Nat → List Value → World → Prop) (js : List (List Nat)) (fr : (Nat → Value) → Array Value) (df : List Deferred) (pt : List (List Nat)) (st lm : List Nat) : List Oper → Nat → Prop
 | [], _ => True
 | o :: rest, i => (match st.idxOf? i with
   | some k => StoreOk al P ops Q FL J js fr df o (pt.getD i []) k
   | none => StepOk al P ops Q FL J js fr df o (pt.getD i []) (lm.getD i st.length)) ∧ StepsOk al P ops Q FL J js fr df pt st lm rest (i + 1)
theorem StepsOk.nil {fr : (Nat → Value) → Array Value} {i : Nat} : StepsOk al P ops Q FL J js fr df pt st lm [] i := trivial
theorem sc {fr : (Nat → Value) → Array Value} {o : Oper} {rest : List Oper} {i : Nat} {need : List Nat} {lim : Nat} (h0 : st.idxOf? i = none) (h1 : pt.getD i [] = need) (h2 : lm.getD i st.length = lim)
  (h : StepOk al P ops Q FL J js fr df o need lim) (hs : StepsOk al P ops Q FL J js fr df pt st lm rest (i + 1)) : StepsOk al P ops Q FL J js fr df pt st lm (o :: rest) i := ⟨by rw [h0, h1, h2]; exact h, hs⟩
theorem steps_at {fr : (Nat → Value) → Array Value} : ∀ (l : List Oper) (i0 : Nat), StepsOk al P ops Q FL J js fr df pt st lm l i0 → ∀ i o, l[i]? = some o → (match st.idxOf? (i0 + i) with
      | some k => StoreOk al P ops Q FL J js fr df o (pt.getD (i0 + i) []) k
      | none => StepOk al P ops Q FL J js fr df o (pt.getD (i0 + i) []) (lm.getD (i0 + i) st.length)) := by
  intro l
  induction l with
  | nil => intro i0 _ i o h; simp at h
  | cons x l ih =>
    intro i0 hs i o h
    cases i with
    | zero => simp at h; subst h; exact hs.1
    | succ i =>
      have := ih (i0 + 1) hs.2 i o (by simpa using h)
      rwa [show i0 + 1 + i = i0 + (i + 1) by omega] at this
def Written (ops : Array Oper) (listed : Array Bool) (d : Nat) : Prop := ∃ j o', listed.getD j false = true ∧ ops[j]? = some o' ∧ o'.dst = some d
structure Inv (al : List Nat) (ops : Array Oper) (FL : List (Nat × Fact)) (J : Nat → List Value → World → Prop) (js : List (List Nat)) (t0 : Array Value) (df : List Deferred) (ds : List Nat) (pt : List (List Nat)) (st : List Nat) (listed : Array Bool) (a : Act) (w : World) : Prop where
 fr : ∃ k u, a = ⟨fillL u ds t0, df⟩ ∧ (∀ d, Written ops listed d → (look FL d).p (u d) w) ∧ J k ((js.getD k []).map u) w ∧ k ≤ st.length ∧ (∀ m, m < k → listed.getD (st.getD m 0) false = true) ∧
  (∀ m, k ≤ m → m < st.length → listed.getD (st.getD m 0) false = false) ∧ (∀ d ∈ js.getD k [], Written ops listed d) ∧ (∀ d ∈ al, Written ops listed d → ∃ g, u d = .pointer (some ⟨g, 0, none⟩) ∧ g < w.heap.size) ∧
  (∀ d ∈ al, ∀ d' ∈ al, d ≠ d' → Written ops listed d → Written ops listed d' → u d ≠ u d')
 cl : ∀ i, listed.getD i false = true → ∀ d ∈ pt.getD i [], Written ops listed d
 cs : ∀ j oj, ops[j]? = some oj → listed.getD j false = true → ∀ e ∈ oj.after, Region.binds .any e = true → listed.getD e.on false = true
 sz : listed.size = ops.size
theorem Written.more {listed : Array Bool} {d i : Nat} (h : Written ops listed d) : Written ops (listed.setIfInBounds i true) d := by
 obtain ⟨j, o', h1, h2, h3⟩ := h
 exact ⟨j, o', getD_set_true h1, h2, h3⟩
theorem getD_flag {listed : Array Bool} {i : Nat} (h : i < listed.size) : listed.getD i true = listed.getD i false := by simp [h]
structure Chk (al : List Nat) (ops : Array Oper) (pt : List (List Nat)) (ds st : List Nat) (js : List (List Nat)) (lm : List Nat) : Prop where
 edge : ∀ (i : Nat) (o : Oper), ops[i]? = some o → ∀ e ∈ o.after, Region.binds .any e = true → e.on < i
 dst : ∀ (i : Nat) (o : Oper), ops[i]? = some o → ∀ d, o.dst = some d → d ∈ ds
 need : ∀ (i : Nat) (o : Oper), ops[i]? = some o → ∀ d ∈ pt.getD i [], ∃ e ∈ o.after, Region.binds .any e = true ∧ ((∃ o' : Oper, ops[e.on]? = some o' ∧ o'.dst = some d) ∨ d ∈ pt.getD e.on [])
 once : ∀ (i j : Nat) (o o' : Oper) (d : Nat), ops[i]? = some o → ops[j]? = some o' → o.dst = some d → o'.dst = some d → i = j
 slt : ∀ m, m < st.length → st.getD m 0 < ops.size
 sdst : ∀ m, m < st.length → ∀ o : Oper, ops[st.getD m 0]? = some o → o.dst = none
 schain : ∀ m, 0 < m → m < st.length → Region.waitsFor .any ops (st.getD m 0) (st.getD (m - 1) 0) = true
 sjs : ∀ m, m < st.length → ∀ d ∈ js.getD (m + 1) [], d ∈ pt.getD (st.getD m 0) [] ∨ d ∈ js.getD m []
 lim : ∀ i, i < ops.size → lm.getD i st.length = st.length ∨ waits2 ops (st.getD (lm.getD i st.length) ops.size) i = true
 wr : ∀ d ∈ ds, ∃ (i : Nat) (o : Oper), ops[i]? = some o ∧ o.dst = some d
 js0 : js.getD 0 [] = []
 alw : ∀ d ∈ al, ∀ m, m < st.length → ∃ (i : Nat) (o : Oper), ops[i]? = some o ∧ o.dst = some d ∧ waits2 ops (st.getD m 0) i = true
 ald : ∀ d ∈ al, d ∈ ds
theorem chk_spec (h : chk al ops pt ds st js lm = true) : Chk al ops pt ds st js lm := by
 unfold chk at h
 simp only [Bool.and_eq_true] at h
 obtain ⟨⟨⟨⟨⟨⟨⟨⟨h8, h9⟩, h1⟩, h2⟩, h3⟩, h4⟩, h5⟩, h6⟩, h7⟩ := h
 have lt : ∀ (i : Nat) (o : Oper), ops[i]? = some o → i ∈ List.range ops.size := fun i o ho => List.mem_range.2 (Array.getElem?_eq_some_iff.1 ho).1
 constructor
 ·intro i o ho e he hb
  have h := List.all_eq_true.1 h1 i (lt i o ho)
  rw [ho] at h
  dsimp only at h
  rw [Array.all_eq_true_iff_forall_mem] at h
  have h := h e he
  rw [hb] at h
  simpa using h
 ·intro i o ho d hd
  have h := List.all_eq_true.1 h2 i (lt i o ho)
  rw [ho] at h
  dsimp only at h
  rw [hd] at h
  simp only [Bool.and_eq_true] at h
  simpa using h.1
 ·intro i o ho d hd
  have h := List.all_eq_true.1 h2 i (lt i o ho)
  rw [ho] at h
  simp only [Bool.and_eq_true] at h
  have h := List.all_eq_true.1 h.2 d hd
  rw [Array.any_eq_true] at h
  obtain ⟨k, hk, h⟩ := h
  rw [Bool.and_eq_true, Bool.or_eq_true] at h
  refine ⟨o.after[k], Array.getElem_mem _, h.1, ?_⟩
  rcases h.2 with h4 | h4
  ·left
   cases h5 : ops[(o.after[k]).on]? with
   | none => rw [h5] at h4; cases h4
   | some o' => rw [h5] at h4; exact ⟨o', rfl, by simpa using h4⟩
  ·right; simpa using h4
 ·intro i j o o' d ho ho' hd hd'
  have h := List.all_eq_true.1 (List.all_eq_true.1 h3 i (lt i o ho)) j (lt j o' ho')
  rw [ho, ho'] at h
  dsimp only at h
  rw [hd, hd'] at h
  simpa using h
 ·intro m hm
  have h := List.all_eq_true.1 h4 m (List.mem_range.2 hm)
  simp only [Bool.and_eq_true, decide_eq_true_eq] at h
  exact h.1.1.1
 ·intro m hm o ho
  have h := List.all_eq_true.1 h4 m (List.mem_range.2 hm)
  simp only [Bool.and_eq_true, decide_eq_true_eq] at h
  have h := h.1.1.2
  rw [ho] at h
  simpa using h
 ·intro m h0 hm
  have h := List.all_eq_true.1 h4 m (List.mem_range.2 hm)
  simp only [Bool.and_eq_true, decide_eq_true_eq, Bool.or_eq_true, Nat.beq_eq] at h
  rcases h.1.2 with h | h
  ·omega
  ·exact h
 ·intro m hm d hd
  have h := List.all_eq_true.1 h4 m (List.mem_range.2 hm)
  simp only [Bool.and_eq_true] at h
  have h := List.all_eq_true.1 h.2 d hd
  simpa using h
 ·intro i hi
  have h := List.all_eq_true.1 h5 i (List.mem_range.2 hi)
  simp only [Bool.or_eq_true, Nat.beq_eq] at h
  exact h
 ·intro d hd
  have h := List.all_eq_true.1 h6 d hd
  rw [Array.any_eq_true] at h
  obtain ⟨k, hk, h⟩ := h
  exact ⟨k, ops[k], by simp [hk], by simpa using h⟩
 ·simpa using h7
 ·intro d hd m hm
  have h := List.all_eq_true.1 (List.all_eq_true.1 h8 d hd) (st.getD m 0) (by simp [hm])
  obtain ⟨i, hi, h⟩ := List.any_eq_true.1 h
  rw [Bool.and_eq_true] at h
  cases ho : ops[i]? with
  | none => rw [ho] at h; cases h.1
  | some o => rw [ho] at h; exact ⟨i, o, ho, by simpa using h.1, h.2⟩
 ·intro d hd
  have h := List.all_eq_true.1 h9 d hd
  simpa using h
theorem inv_step (hc : Chk al ops pt ds st js lm) (hst : ∀ k l w w', Below w.heap.size w w' → J k l w → J k l w') (hs : StepsOk al P ops Q FL J js (fun u => fillL u ds t0) df pt st lm ops.toList 0) {listed : Array Bool} {a : Act} {w : World}
    (hI : Inv al ops FL J js t0 df ds pt st listed a w) {i : Nat} (hi : i ∈ Region.ready .any ops listed) :
    wpOp P ops Q i (Inv al ops FL J js t0 df ds pt st (listed.setIfInBounds i true)) a w := by
  obtain ⟨h0, o, ho, hall⟩ := mem_ready.1 hi
  have hlt : i < ops.size := (Array.getElem?_eq_some_iff.1 ho).1
  have hil : i < listed.size := by rw [hI.sz]; exact hlt
  have hun : listed.getD i false = false := by rw [← getD_flag hil]; exact h0
  obtain ⟨k, u, rfl, hfac, hJ, hk, hk1, hk2, hk3, hk4, hk5⟩ := hI.fr
  have hneed : ∀ d ∈ pt.getD i [], Written ops listed d := by
    intro d hd
    obtain ⟨e, he, hb, h1⟩ := hc.need i o ho d hd
    have h2 := hall e he hb
    rcases h1 with ⟨o', h3, h4⟩ | h3
    · exact ⟨e.on, o', h2, h3, h4⟩
    · exact hI.cl e.on h2 d h3
  have hstep := steps_at _ _ hs i o (by simpa using ho)
  rw [Nat.zero_add] at hstep
  have hcs : ∀ j oj, ops[j]? = some oj → (listed.setIfInBounds i true).getD j false = true → ∀ e ∈ oj.after, Region.binds .any e = true → (listed.setIfInBounds i true).getD e.on false = true := by
    intro j oj hj hl e he hb
    by_cases hij : i = j
    · subst hij
      have : oj = o := Option.some.inj (hj.symm.trans ho)
      subst this
      exact getD_set_true (hall e he hb)
    · rw [getD_set_ne false hij] at hl
      exact getD_set_true (hI.cs j oj hj hl e he hb)
  have hcl : ∀ j, (listed.setIfInBounds i true).getD j false = true → ∀ d ∈ pt.getD j [], Written ops (listed.setIfInBounds i true) d := by
    intro j hj d hd
    by_cases hij : i = j
    · subst hij; exact (hneed d hd).more
    · rw [getD_set_ne false hij] at hj
      exact (hI.cl j hj d hd).more
  have hwait : ∀ m, m < k → ∀ j, Region.waitsFor .any ops (st.getD m 0) j = true → listed.getD j false = true := by
    intro m hm j hw
    obtain ⟨oj, hoj, e, he, hb, hon⟩ := Region.waitsFor_spec hw
    rw [← hon]
    exact hI.cs _ oj hoj (hk1 m hm) e he hb
  have hwait2 : ∀ m, m < k → ∀ j, waits2 ops (st.getD m 0) j = true → listed.getD j false = true := by
    intro m hm j hw
    unfold waits2 at hw
    rw [Bool.or_eq_true] at hw
    rcases hw with hw | hw
    · exact hwait m hm j hw
    · obtain ⟨x, -, hx⟩ := List.any_eq_true.1 hw
      rw [Bool.and_eq_true] at hx
      obtain ⟨oj, hoj, e, he, hb, hon⟩ := Region.waitsFor_spec hx.2
      rw [← hon]
      exact hI.cs _ oj hoj (hwait m hm x hx.1) e he hb
  cases hsi : st.idxOf? i with
  | none =>
    rw [hsi] at hstep
    have hns : ∀ m, m < st.length → st.getD m 0 ≠ i := by
      intro m hm e
      have h1 : i ∈ st := by rw [← e]; simp [hm]
      have h2 := List.idxOf?_eq_none_iff.1 hsi
      exact h2 h1
    have hlim : k ≤ lm.getD i st.length := by
      rcases hc.lim i hlt with h1 | h1
      · omega
      · rcases Nat.lt_or_ge (lm.getD i st.length) k with h2 | h2
        · exfalso
          have h3 := hwait2 _ h2 i (by
            have e : st.getD (lm.getD i st.length) ops.size = st.getD (lm.getD i st.length) 0 := by
              have : lm.getD i st.length < st.length := by omega
              generalize lm.getD i st.length = z at *
              simp [this]
            rw [← e]; exact h1)
          rw [hun] at h3; cases h3
        · exact h2
    refine wpOp_step ho (fun K' hK => hstep k u w hlim hJ (facts_mk fun d hd => hfac d (hneed d hd)) K' ?_)
    intro v w' hb hf hao
    have hwi : ∀ d, Written ops (listed.setIfInBounds i true) d → o.dst = some d ∨ Written ops listed d := by
      rintro d ⟨j, o', h1, h2, h3⟩
      by_cases hij : i = j
      · subst hij
        rw [ho] at h2
        injection h2 with h2
        subst h2
        exact .inl h3
      · rw [getD_set_ne false hij] at h1
        exact .inr ⟨j, o', h1, h2, h3⟩
    have hnw : ∀ d, o.dst = some d → ¬ Written ops listed d := by
      rintro d hd ⟨j, o', h1, h2, h3⟩
      have := hc.once i j o o' d ho h2 hd h3
      subst this
      rw [hun] at h1; cases h1
    have hne : ∀ d, o.dst ≠ some d → upd u o.dst v d = u d := by
      intro d hd
      cases h : o.dst with
      | none => rfl
      | some d' => rw [h] at hd; simp only [upd]; rw [if_neg (fun h => hd (by rw [h]))]
    have hal : ∀ d ∈ al, o.dst = some d → v = .pointer (some ⟨w.heap.size, 0, none⟩) ∧ w.heap.size < w'.heap.size := by
      intro d hd h
      unfold aOk at hao
      rw [h] at hao
      dsimp only at hao
      rw [show al.contains d = true by simpa using hd] at hao
      exact hao
    refine hK _ _ ⟨⟨k, upd u o.dst v, put_fill u o v (hc.dst i o ho), ?_, ?_, hk, fun m hm => getD_set_true (hk1 m hm), fun m hm hm' => ?_, fun d hd => (hk3 d hd).more, fun d hd hw => ?_, fun d hd d' hd' hdd hw hw' => ?_⟩, hcl, hcs, by simpa using hI.sz⟩
    · rintro d ⟨j, o', h1, h2, h3⟩
      by_cases hd : o.dst = some d
      · rw [hd] at hf ⊢
        have e : upd u (some d) v d = v := by simp [upd]
        rw [e]; exact hf
      · have hw : Written ops listed d := by
          by_cases hij : i = j
          · subst hij
            rw [ho] at h2
            injection h2 with h2
            subst h2
            exact absurd h3 hd
          · rw [getD_set_ne false hij] at h1
            exact ⟨j, o', h1, h2, h3⟩
        have e : upd u o.dst v d = u d := by
          cases h : o.dst with
          | none => rfl
          | some d' => rw [h] at hd; simp only [upd]; rw [if_neg (fun h => hd (by rw [h]))]
        rw [e]
        exact (look FL d).st _ _ _ (Keep.ofBelow hb) (hfac d hw)
    · have e : (js.getD k []).map (upd u o.dst v) = (js.getD k []).map u := by
        apply List.map_congr_left
        intro d hd
        cases h : o.dst with
        | none => rfl
        | some d' =>
          simp only [upd]
          rw [if_neg]
          rintro rfl
          obtain ⟨j, o', h1, h2, h3⟩ := hk3 d hd
          have := hc.once i j o o' d ho h2 h h3
          subst this
          rw [hun] at h1; cases h1
      rw [e]
      exact hst _ _ _ _ hb hJ
    · rw [getD_set_ne false (Ne.symm (hns m hm'))]; exact hk2 m hm hm'
    · by_cases h : o.dst = some d
      · obtain ⟨h1, h2⟩ := hal d hd h
        exact ⟨w.heap.size, by rw [h]; simp [upd, h1], h2⟩
      · rcases hwi d hw with h1 | h1
        · exact absurd h1 h
        · obtain ⟨g, h2, h3⟩ := hk4 d hd h1
          exact ⟨g, by rw [hne d h]; exact h2, Nat.lt_of_lt_of_le h3 hb.size⟩
    · by_cases h : o.dst = some d
      · have h' : o.dst ≠ some d' := fun h2 => hdd (by rw [h] at h2; injection h2)
        rcases hwi d' hw' with h1 | h1
        · exact absurd h1 h'
        · obtain ⟨g, h2, h3⟩ := hk4 d' hd' h1
          rw [hne d' h', h2, h]
          simp only [upd, if_pos]
          rw [(hal d hd h).1]
          intro he
          simp at he <;> omega
      · rcases hwi d hw with h1 | h1
        · exact absurd h1 h
        · by_cases h' : o.dst = some d'
          · obtain ⟨g, h2, h3⟩ := hk4 d hd h1
            rw [hne d h, h2, h']
            simp only [upd, if_pos]
            rw [(hal d' hd' h').1]
            intro he
            simp at he <;> omega
          · rcases hwi d' hw' with h2 | h2
            · exact absurd h2 h'
            · rw [hne d h, hne d' h']; exact hk5 d hd d' hd' hdd h1 h2
  | some m =>
    rw [hsi] at hstep
    obtain ⟨hm, hmi, -⟩ := List.idxOf?_eq_some_iff.1 hsi
    have hmi' : st.getD m 0 = i := by simp [hm]; exact hmi
    have hmk : m = k := by
      rcases Nat.lt_trichotomy m k with h1 | h1 | h1
      · have := hk1 m h1; rw [hmi', hun] at this; cases this
      · exact h1
      · exfalso
        have h2 := hc.schain m (by omega) hm
        rw [hmi'] at h2
        obtain ⟨oj, hoj, e, he, hb, hon⟩ := Region.waitsFor_spec h2
        have : oj = o := Option.some.inj (hoj.symm.trans ho)
        subst this
        have h3 := hall e he hb
        rw [hon, hk2 (m - 1) (by omega) (by omega)] at h3
        cases h3
    subst hmk
    have hdn : o.dst = none := hc.sdst m hm o (by rw [hmi']; exact ho)
    have hwal : ∀ d ∈ al, Written ops listed d := by
      intro d hd
      obtain ⟨j, o', h1, h2, h3⟩ := hc.alw d hd m hm
      rw [hmi'] at h3
      refine ⟨j, o', ?_, h1, h2⟩
      unfold waits2 at h3
      rw [Bool.or_eq_true] at h3
      rcases h3 with h3 | h3
      · obtain ⟨oj, hoj, e, he, hb, hon⟩ := Region.waitsFor_spec h3
        have : oj = o := Option.some.inj (hoj.symm.trans ho)
        subst this
        rw [← hon]; exact hall e he hb
      · obtain ⟨x, -, hx⟩ := List.any_eq_true.1 h3
        rw [Bool.and_eq_true] at hx
        obtain ⟨oj, hoj, e, he, hb, hon⟩ := Region.waitsFor_spec hx.1
        have : oj = o := Option.some.inj (hoj.symm.trans ho)
        subst this
        have h4 := hall e he hb
        rw [hon] at h4
        obtain ⟨oj2, hoj2, e2, he2, hb2, hon2⟩ := Region.waitsFor_spec hx.2
        rw [← hon2]
        exact hI.cs _ oj2 hoj2 h4 e2 he2 hb2
    refine wpOp_step ho (fun K' hK => hstep u w hJ (fun d hd d' hd' hdd => hk5 d hd d' hd' hdd (hwal d hd) (hwal d' hd')) (facts_mk fun d hd => hfac d (hneed d hd)) K' ?_)
    intro v w' hJ' hb
    refine hK _ _ ⟨⟨m + 1, u, by rw [hdn]; rfl, ?_, hJ', hm, fun j hj => ?_, fun j hj hj' => ?_, fun d hd => ?_, fun d hd hw => ?_, fun d hd d' hd' hdd hw hw' => hk5 d hd d' hd' hdd (hwal d hd) (hwal d' hd')⟩, hcl, hcs, by simpa using hI.sz⟩
    · rintro d ⟨j, o', h1, h2, h3⟩
      have hij : i ≠ j := by
        rintro rfl
        rw [ho] at h2
        injection h2 with h2
        subst h2
        rw [hdn] at h3; cases h3
      rw [getD_set_ne false hij] at h1
      exact (look FL d).st _ _ _ hb (hfac d ⟨j, o', h1, h2, h3⟩)
    · by_cases h1 : j = m
      · subst h1; rw [hmi']; simp [hil]
      · exact getD_set_true (hk1 j (by omega))
    · have h1 := hk2 j (by omega) hj'
      by_cases h2 : st.getD j 0 = i
      · exfalso
        have h3 : ∀ n, m ≤ n → n < st.length → i ≤ st.getD n 0 ∧ (m < n → i < st.getD n 0) := by
          intro n
          induction n with
          | zero => intro h4 h5; exact ⟨by have : m = 0 := by omega
                                           subst this; rw [hmi']; exact Nat.le_refl _, fun h => by omega⟩
          | succ n ih =>
            intro h4 h5
            by_cases h6 : m = n + 1
            · subst h6; exact ⟨by rw [hmi']; exact Nat.le_refl _, fun h => by omega⟩
            · have h7 := ih (by omega) (by omega)
              have h8 := hc.schain (n + 1) (by omega) h5
              obtain ⟨oj, hoj, e, he, hb', hon⟩ := Region.waitsFor_spec h8
              have h9 := hc.edge _ oj hoj e he hb'
              rw [hon, Nat.add_sub_cancel] at h9
              exact ⟨by omega, fun _ => by omega⟩
        have := (h3 j (by omega) hj').2 (by omega)
        omega
      · rw [getD_set_ne false (Ne.symm h2)]; exact h1
    · rcases hc.sjs m hm d hd with h1 | h1
      · rw [hmi'] at h1; exact (hneed d h1).more
      · exact (hk3 d h1).more
    · obtain ⟨g, h1, h2⟩ := hk4 d hd (hwal d hd)
      exact ⟨g, h1, Nat.lt_of_lt_of_le h2 hb.size⟩
theorem ready_nil_all (hc : Chk al ops pt ds st js lm) {listed : Array Bool} (hsz : listed.size = ops.size) (hr : Region.ready .any ops listed = []) : ∀ n i, i < n → i < ops.size → listed.getD i false = true := by
 intro n
 induction n with
 | zero => intro i h; omega
 | succ n ih =>
  intro i hin hi
  have hil : i < listed.size := by omega
  cases hv : listed.getD i false with
  | true => rfl
  | false =>
   exfalso
   have ho : ops[i]? = some ops[i] := by simp [hi]
   have : i ∈ Region.ready .any ops listed := by
    rw [mem_ready]
    refine ⟨by simp [hil] at hv ⊢; exact hv, _, ho, fun e he hb => ?_⟩
    have h1 := hc.edge i _ ho e he hb
    exact ih e.on (by omega) (by omega)
   rw [hr] at this
   cases this
theorem wpAny_inv (hc : Chk al ops pt ds st js lm) (hst : ∀ k l w w', Below w.heap.size w w' → J k l w → J k l w') (hs : StepsOk al P ops Q FL J js (fun u => fillL u ds t0) df pt st lm ops.toList 0)
  (hend : ∀ u w, J st.length ((js.getD st.length []).map u) w → Facts FL u w ds → Q .normal ⟨fillL u ds t0, df⟩ w) :
  ∀ (fuel : Nat) (listed : Array Bool) (a : Act) (w : World), ((List.range ops.size).filter fun j => !listed.getD j true).length ≤ fuel → Inv al ops FL J js t0 df ds pt st listed a w → wpAny P .any ops Q fuel listed a w := by
 have hfin : ∀ (listed : Array Bool) (a : Act) (w : World), Inv al ops FL J js t0 df ds pt st listed a w → Region.ready .any ops listed = [] → Q .normal a w := by
  intro listed a w hI hr
  obtain ⟨k, u, rfl, hfac, hJ, hk, hk1, hk2, hk3, hk4, hk5⟩ := hI.fr
  have hall := ready_nil_all hc hI.sz hr
  have hkl : k = st.length := by
   rcases Nat.lt_or_ge k st.length with h | h
   ·have h1 := hk2 k (Nat.le_refl _) h
    rw [hall (st.getD k 0 + 1) _ (by omega) (hc.slt k h)] at h1
    cases h1
   ·omega
  subst hkl
  refine hend u w hJ (facts_mk fun d hd => hfac d ?_)
  obtain ⟨i, o, h1, h2⟩ := hc.wr d hd
  exact ⟨i, o, hall (i + 1) i (by omega) (Array.getElem?_eq_some_iff.1 h1).1, h1, h2⟩
 intro fuel
 induction fuel with
 | zero =>
  intro listed a w hcnt hI
  have hr : Region.ready .any ops listed = [] := by
   rw [List.eq_nil_iff_forall_not_mem]
   intro j hj
   obtain ⟨h0, o, ho, -⟩ := mem_ready.1 hj
   have hlt : j < ops.size := (Array.getElem?_eq_some_iff.1 ho).1
   have hm : j ∈ (List.range ops.size).filter fun j => !listed.getD j true := by
    rw [List.mem_filter]
    exact ⟨List.mem_range.2 hlt, by rw [h0]; rfl⟩
   have := List.length_pos_of_mem hm
   omega
  exact ⟨hr, hfin _ _ _ hI hr⟩
 | succ fuel ih =>
  intro listed a w hcnt hI
  refine ⟨fun hr => hfin _ _ _ hI hr, fun i hi => ?_⟩
  obtain ⟨h0, o, ho, -⟩ := mem_ready.1 hi
  have hlt : i < ops.size := (Array.getElem?_eq_some_iff.1 ho).1
  refine wpOp_mono (fun a' w' hI' => ih _ a' w' ?_ hI') (inv_step hc hst hs hI hi)
  have := filter_less (p := fun j => !listed.getD j true) (q := fun j => !(listed.setIfInBounds i true).getD j true) (i := i) (by simp only [h0]; rfl) (by
   have hil : i < listed.size := by rw [hI.sz]; exact hlt
   simp [hil]) (fun j hj => by
   by_cases hij : i = j
   ·subst hij
    exfalso
    have hil : i < listed.size := by rw [hI.sz]; exact hlt
    simp [hil] at hj
   ·rw [getD_set_ne true hij] at hj; exact hj) (List.range ops.size) (List.mem_range.2 hlt)
  omega
theorem region_facts {id : Nat} {w : World} {opl : List Oper} (FL : List (Nat × Fact)) (J : Nat → List Value → World → Prop) (pt : List (List Nat)) (st : List Nat) (js : List (List Nat)) (lm : List Nat) (al : List Nat) {fr : (Nat → Value) → Array Value} (hfr : ∀ u, fillL u (temps FL) t0 = fr u)
  (hm : P.follows .mixedOrders = true) (hchk : chk al opl.toArray pt (temps FL) st js lm = true) (hst : ∀ k l w w', Below w.heap.size w w' → J k l w → J k l w') (hJ : J 0 [] w.drew)
  (hs : StepsOk al P opl.toArray Q FL J js fr df pt st lm opl 0)
  (hend : ∀ u w, J st.length ((js.getD st.length []).map u) w → Facts FL u w (temps FL) → Q .normal ⟨fr u, df⟩ w) : (Code.region id opl.toArray true).wp P Q ⟨t0, df⟩ w := by
 obtain rfl : (fun u => fillL u (temps FL) t0) = fr := funext hfr
 have hc := chk_spec hchk
 refine wp_region_any hm (wpAny_inv (t0 := t0) hc hst hs hend opl.toArray.size _ _ _ ?_ ⟨⟨0, fun d => t0.getD d undef, by rw [fillL_self], ?_, by rw [hc.js0]; exact hJ, Nat.zero_le _, fun m h => by omega, fun m _ _ => none_listed _ _, fun d hd => (by rw [hc.js0] at hd; cases hd), fun d _ hw => (by obtain ⟨j, o', h1, _, _⟩ := hw; rw [none_listed] at h1; cases h1), fun d _ d' _ _ hw => by obtain ⟨j, o', h1, _, _⟩ := hw; rw [none_listed] at h1; cases h1⟩, ?_, ?_, by simp⟩)
 ·exact Nat.le_trans (List.length_filter_le _ _) (by simp)
 ·rintro d ⟨j, o', h1, -, -⟩
  rw [none_listed] at h1; cases h1
 ·intro i hi
  rw [none_listed] at hi; cases hi
 ·intro j oj _ hl
  rw [none_listed] at hl; cases hl
end
end Go.Proofs.Ytdloccpcbcpdgaa.AS
namespace Go.Proofs.Ytdloccpcbcpdgaa
open Go.RowKit
def DNo6 (W : World) : Nat → List Value → World → Prop := fun _ _ w => Below W.heap.size W w
theorem DNo6.st (W : World) : ∀ k l w w', Below w.heap.size w w' → DNo6 W k l w → DNo6 W k l w' := fun _ _ _ _ hb h => below_more h hb
theorem blk_new {t : TypeId} (w : World) (x : Nat) : Blk .u8 t (w.alloc (.cells #[.int .u8 (x : Int)] t)) w.heap.size [x] := heap_alloc_new w _
theorem one_str {w : World} {g R : Nat} {c : UInt8} (hR : c.toNat = R) (h : Blk .u8 5 w g [R]) : (convert 47 9 (.slice (some ⟨g, 0, none⟩) 1 1)).run Try.prog w = .ok (.string ⟨#[c]⟩) w := by
 have e : [R] = codes [c] := by rw [← hR]; rfl
 rw [e] at h
 exact run_bytes_str 47 9 Try.underlying47 Try.underlying5 Try.underlying9 (blk_own h (by simp [codes])) (by simp)
theorem bytes_eq6 {a b : ByteArray} (h : a.data.toList = b.data.toList) : a = b := by
 cases a; cases b; congr; exact Array.toList_inj.1 h
def bkF (R : Nat) : AS.Fact := ⟨fun v w => ∃ g, v = .slice (some ⟨g, 0, none⟩) 1 1 ∧ Blk .u8 5 w g [R], fun v w w' hk ⟨g, e, h⟩ => ⟨g, e, (hk.blk g h.lt ⟨0, _, _, h.cell 0 (by simp)⟩).trans h⟩⟩
def rdgFL (n k K1 Q M R : Nat) (c : UInt8) (X : ByteArray) : List (Nat × AS.Fact) := [(7, AS.Fact.is (.int .i64 (n : Int))), (8, AS.Fact.is (.int .i64 (Q : Int))), (9, AS.Fact.is (.int .i64 (K1 : Int))), (10, AS.Fact.is (.int .i64 (k : Int))), (11, AS.Fact.is (.string X)), (12, AS.Fact.is (.int .i64 (n : Int))), (13, AS.Fact.is (.int .i64 (M : Int))), (14, AS.Fact.is (.int .i64 (R : Int))), (15, AS.Fact.is (.int .u8 (R : Int))), (16, bkF R), (17, AS.Fact.is (.string (⟨#[c]⟩ : ByteArray))), (18, AS.Fact.is (.string (X ++ (⟨#[c]⟩ : ByteArray)))), (4, AS.Fact.is (.string (X ++ (⟨#[c]⟩ : ByteArray))))]
set_option maxRecDepth 20000 in
set_option maxHeartbeats 1000000 in
theorem rdigs_any (k : Nat) : ∀ (n : Nat) (w : World), k ≤ 100 → n ≤ 10000000 → Calls Try.prog 48 #[.int .i64 (n : Int), .int .i64 (k : Int)] w fun e w' => e = .returned (.string ⟨(padk k n).toArray⟩) ∧ Below w.heap.size w w' := by
 induction k with
 | zero =>
  intro n w _ _
  show Calls Try.prog 48 #[.int .i64 (n : Int), .int .i64 0] w _
  go_enter Try.func48, Try.ntmps48
  go_wp2_with fail
  go_ret
  exact ⟨rfl, Below.refl _ _⟩
 | succ k ih =>
  intro n w hk hn
  have IH := fun w => ih (n / 10) w (by omega) (by omega)
  obtain ⟨Q, hQ⟩ : ∃ Q, n / 10 = Q := ⟨_, rfl⟩
  obtain ⟨M, hM⟩ : ∃ M, n % 10 = M := ⟨_, rfl⟩
  obtain ⟨R, hR⟩ : ∃ R, 48 + M = R := ⟨_, rfl⟩
  obtain ⟨c, hc⟩ : ∃ c, UInt8.ofNat (48 + n % 10) = c := ⟨_, rfl⟩
  obtain ⟨K1, hK1⟩ : ∃ K1, k + 1 = K1 := ⟨_, rfl⟩
  obtain ⟨X, hX⟩ : ∃ X : ByteArray, ⟨(padk k Q).toArray⟩ = X := ⟨_, rfl⟩
  rw [hQ, hX] at IH
  have hpad : (⟨(padk (k + 1) n).toArray⟩ : ByteArray) = X ++ ⟨#[c]⟩ := by
   rw [padk, hQ, hc, ← hX]
   apply bytes_eq6
   simp
  rw [hpad, hK1]
  have HQ1 := Lib.hid (show IntKind.i64.wrap ((n : Int) / 10) = (Q : Int) by rw [IntWalk.i64_left]; unfold wrap64; omega)
  have HQ2 := Lib.hid (show IntKind.i64.wrap ((K1 : Int) - 1) = (k : Int) by rw [IntWalk.i64_left]; unfold wrap64; omega)
  have HQ3 := Lib.hid (show (n : Int).tmod 10 = (M : Int) by rw [Int.tmod_eq_emod_of_nonneg (by omega)]; omega)
  have HQ4 := Lib.hid (show IntKind.i64.wrap (48 + (M : Int)) = (R : Int) by rw [IntWalk.i64_left]; unfold wrap64; omega)
  have HQ5 := Lib.hid (show IntKind.u8.wrap (R : Int) = (R : Int) from IntWalk.u8_in _ (by omega))
  have HR := Lib.hid (show c.toNat = R by rw [← hc]; simp; omega)
  have hX8 : X.size = k := by
   rw [← hX]
   show (padk k Q).toArray.size = k
   rw [List.size_toArray, padk_length]
  have HQ8 := Lib.hid (show (9223372036854775807 < X.size + 1) = False by rw [hX8]; apply eq_false; omega)
  have hk1 : ((K1 : Int) == 0) = false := by simp; omega
  have HIH := Lib.hid IH
  clear IH hQ hM hR hc hK1 hX hpad hX8
  have hB := Below.refl w.heap.size w
  clear ih
  go_enter Try.func48, Try.ntmps48
  go_wp2_with fail
  refine AS.region_facts (rdgFL n k K1 Q M R c X) (DNo6 w) [[], [7], [], [9], [8, 10], [], [12], [13], [14], [15], [16], [11, 17], [18]] [] [[]] [0, 0, 0, 0, 0, 0, 0, 0, 0, 0, 0, 0, 0] [] (fun u => by simp only [rdgFL, AS.temps, List.map_cons, List.map_nil, fillL, List.setIfInBounds_toArray, List.set_cons_zero, List.set_cons_succ]; rfl) (by kernel_rfl) (by kernel_rfl) (DNo6.st w) (dc_drew (Below.refl _ _)) ?_ ?_
  ·refine AS.sc rfl rfl rfl ?_ ?_
   ·intro k_ u w_ hk hJ hF K hK
    clear hF
    go_simp
    exact hK.out _ _ (Below.refl _ _) (rfl) trivial
   refine AS.sc rfl rfl rfl ?_ ?_
   ·intro k_ u w_ hk hJ hF K hK
    have h7 : u 7 = .int .i64 (n : Int) := AS.facts_get hF 7 (by simp)
    clear hF
    simp only [h7] at hK ⊢
    clear h7
    have q1 := HQ1.out
    go_simp
    exact hK.out _ _ (Below.refl _ _) (rfl) trivial
   refine AS.sc rfl rfl rfl ?_ ?_
   ·intro k_ u w_ hk hJ hF K hK
    clear hF
    go_simp
    exact hK.out _ _ (Below.refl _ _) (rfl) trivial
   refine AS.sc rfl rfl rfl ?_ ?_
   ·intro k_ u w_ hk hJ hF K hK
    have h9 : u 9 = .int .i64 (K1 : Int) := AS.facts_get hF 9 (by simp)
    clear hF
    simp only [h9] at hK ⊢
    clear h9
    have q2 := HQ2.out
    go_simp
    exact hK.out _ _ (Below.refl _ _) (rfl) trivial
   refine AS.sc rfl rfl rfl ?_ ?_
   ·intro k_ u w_ hk hJ hF K hK
    have h8 : u 8 = .int .i64 (Q : Int) := AS.facts_get hF 8 (by simp)
    have h10 : u 10 = .int .i64 (k : Int) := AS.facts_get hF 10 (by simp)
    clear hF
    simp only [h8, h10] at hK ⊢
    clear h8 h10
    go_simp
    refine (HIH.out _).mono ?_
    rintro e w2 ⟨rfl, hb⟩
    exact hK.out _ _ hb rfl trivial
   refine AS.sc rfl rfl rfl ?_ ?_
   ·intro k_ u w_ hk hJ hF K hK
    clear hF
    go_simp
    exact hK.out _ _ (Below.refl _ _) (rfl) trivial
   refine AS.sc rfl rfl rfl ?_ ?_
   ·intro k_ u w_ hk hJ hF K hK
    have h12 : u 12 = .int .i64 (n : Int) := AS.facts_get hF 12 (by simp)
    clear hF
    simp only [h12] at hK ⊢
    clear h12
    have q3 := HQ3.out
    go_simp
    exact hK.out _ _ (Below.refl _ _) (rfl) trivial
   refine AS.sc rfl rfl rfl ?_ ?_
   ·intro k_ u w_ hk hJ hF K hK
    have h13 : u 13 = .int .i64 (M : Int) := AS.facts_get hF 13 (by simp)
    clear hF
    simp only [h13] at hK ⊢
    clear h13
    have q4 := HQ4.out
    go_simp
    exact hK.out _ _ (Below.refl _ _) (rfl) trivial
   refine AS.sc rfl rfl rfl ?_ ?_
   ·intro k_ u w_ hk hJ hF K hK
    have h14 : u 14 = .int .i64 (R : Int) := AS.facts_get hF 14 (by simp)
    clear hF
    simp only [h14] at hK ⊢
    clear h14
    have q5 := HQ5.out
    go_simp
    exact hK.out _ _ (Below.refl _ _) (rfl) trivial
   refine AS.sc rfl rfl rfl ?_ ?_
   ·intro k_ u w_ hk hJ hF K hK
    have h15 : u 15 = .int .u8 (R : Int) := AS.facts_get hF 15 (by simp)
    clear hF
    simp only [h15] at hK ⊢
    clear h15
    go_simp
    exact hK.out _ _ (below_alloc_new _) ⟨_, rfl, blk_new _ _⟩ trivial
   refine AS.sc rfl rfl rfl ?_ ?_
   ·intro k_ u w_ hk hJ hF K hK
    have h16 : ∃ g, u 16 = .slice (some ⟨g, 0, none⟩) 1 1 ∧ Blk .u8 5 w_ g [R] := AS.facts_get hF 16 (by simp)
    clear hF
    obtain ⟨g, h16, hg⟩ := h16
    have hrun := one_str HR.out hg
    simp only [h16] at hK ⊢
    clear h16 hg
    go_simp
    exact hK.out _ _ (Below.refl _ _) (rfl) trivial
   refine AS.sc rfl rfl rfl ?_ ?_
   ·intro k_ u w_ hk hJ hF K hK
    have h11 : u 11 = .string X := AS.facts_get hF 11 (by simp)
    have h17 : u 17 = .string (⟨#[c]⟩ : ByteArray) := AS.facts_get hF 17 (by simp)
    clear hF
    simp only [h11, h17] at hK ⊢
    clear h11 h17
    have q8 := HQ8.out
    go_simp
    exact hK.out _ _ (Below.refl _ _) (rfl) trivial
   refine AS.sc rfl rfl rfl ?_ ?_
   ·intro k_ u w_ hk hJ hF K hK
    have h18 : u 18 = .string (X ++ (⟨#[c]⟩ : ByteArray)) := AS.facts_get hF 18 (by simp)
    clear hF
    simp only [h18] at hK ⊢
    clear h18
    go_simp
    exact hK.out _ _ (Below.refl _ _) (rfl) trivial
   exact AS.StepsOk.nil
  ·intro u W9 hJ9 hF
   have h4 : u 4 = .string (X ++ (⟨#[c]⟩ : ByteArray)) := AS.facts_get hF 4 (by simp [rdgFL, AS.temps])
   have hB9 : Below w.heap.size w W9 := hJ9
   clear hF hJ9
   simp only [h4]
   go_wp2_with fail
   go_ret
   exact ⟨rfl, hB9⟩
theorem qdigs_any (n : Int) (k : Nat) (hk : k ≤ 100) (h0 : 0 ≤ n) (hn : n ≤ 10000000) (w : World) : Calls Try.prog 48 #[.int .i64 n, .int .i64 (k : Int)] w fun e w' => e = .returned (.string (dgT k n)) ∧ Below w.heap.size w w' := by
 have h := rdigs_any k n.toNat w hk (by omega)
 rw [Int.toNat_of_nonneg h0] at h
 exact h
theorem dtrtext_any (n : Int) (w : World) : Calls Try.prog 33 #[.int .i64 n] w fun e w' => e = .returned (.string (txT n)) ∧ Below w.heap.size w w' := by
 unfold txT
 have hB := Below.refl w.heap.size w
 cases h : vdB n
 ·have h1 := fun w => rciv_no n w h
  have H1 := Lib.hid h1
  clear h1 h
  go_enter Try.func33, Try.ntmps33
  go_wp2_with (go_at_call 27; refine (H1.out _).mono ?_; rintro e w' ⟨rfl, rfl⟩)
  go_ret
  exact ⟨rfl, hB⟩
 ·have h1 := fun w => rciv_any n w h
  have hc := civ_is h
  generalize civY n = y at *
  generalize civM n = m at *
  generalize civD n = d at *
  have hd := mdy_bd y m
  obtain ⟨y0, y1, m0, m1, d0, d1, -⟩ := hc
  have h2 : ∀ w : World, Calls Try.prog 48 #[.int .i64 y, .int .i64 4] w fun e w' => e = .returned (.string (dgT 4 y)) ∧ Below w.heap.size w w' := fun w => qdigs_any y 4 (by omega) (by omega) (by omega) w
  have h3 : ∀ w : World, Calls Try.prog 48 #[.int .i64 m, .int .i64 2] w fun e w' => e = .returned (.string (dgT 2 m)) ∧ Below w.heap.size w w' := fun w => qdigs_any m 2 (by omega) (by omega) (by omega) w
  have h4 : ∀ w : World, Calls Try.prog 48 #[.int .i64 d, .int .i64 2] w fun e w' => e = .returned (.string (dgT 2 d)) ∧ Below w.heap.size w w' := fun w => qdigs_any d 2 (by omega) (by omega) (by omega) w
  rw [if_pos rfl]
  unfold civT
  have s1 := dgT_size 4 y
  have s2 := dgT_size 2 m
  have s3 := dgT_size 2 d
  generalize dgT 4 y = Y at *
  generalize dgT 2 m = M at *
  generalize dgT 2 d = D at *
  have t1 : (Y ++ ⟨#[45]⟩ : ByteArray).size = 5 := by rw [ByteArray.size_append, s1]; rfl
  have t2 : (Y ++ ⟨#[45]⟩ ++ M : ByteArray).size = 7 := by rw [ByteArray.size_append, t1, s2]
  have t3 : (Y ++ ⟨#[45]⟩ ++ M ++ ⟨#[45]⟩ : ByteArray).size = 8 := by rw [ByteArray.size_append, t2]; rfl
  have H1 := Lib.hid h1
  have H2 := Lib.hid h2
  have H3 := Lib.hid h3
  have H4 := Lib.hid h4
  clear h1 h2 h3 h4 h t1 t2 t3
  go_enter Try.func33, Try.ntmps33
  go_wp2_with (first | (go_at_call 27; refine (H1.out _).mono ?_; rintro e w' ⟨rfl, rfl⟩) | (go_at_call 48; first | ((with_reducible refine (H2.out _).mono ?_); rintro e w' ⟨rfl, hb⟩; replace hB := below_more hB hb; clear hb) | ((with_reducible refine (H3.out _).mono ?_); rintro e w' ⟨rfl, hb⟩; replace hB := below_more hB hb; clear hb) | ((with_reducible refine (H4.out _).mono ?_); rintro e w' ⟨rfl, hb⟩; replace hB := below_more hB hb; clear hb)))
  go_ret
  exact ⟨rfl, hB⟩
theorem rcheck7_any (y m k p : Int) (w : World) : Calls Try.prog 36 #[calV y m k, .int .i64 p] w fun e w' => e = .returned (.int .i64 (clE y m k p)) ∧ Below w.heap.size w w' := by
 obtain ⟨tn, bn⟩ := tri_new w 23 y m k
 have HT := Lib.hid tn
 obtain ⟨c0, c1, c2, lt⟩ := tn
 have h1 := fun w => rvalid7_any y m k w
 rcases clE_three y m k p with ⟨hv, he⟩ | ⟨hv, hp, he⟩ | ⟨hv, hp, he⟩
 ·rw [he]
  rw [hv] at h1
  have H1 := Lib.hid h1
  clear h1 hv he
  go_enter Try.func36, Try.ntmps36
  go_wp2_with (go_at_call 12; refine (H1.out _).mono ?_; rintro e w' ⟨rfl, hb⟩; replace bn := below_more bn hb; replace HT := Lib.hid (HT.out.up hb); clear c0 c1 c2 lt hb; obtain ⟨c0, c1, c2, lt⟩ := HT.out)
  go_ret
  exact ⟨rfl, bn⟩
 ·rw [he]
  rw [hv] at h1
  have H1 := Lib.hid h1
  clear h1 hv he
  by_cases h0 : p < 0
  ·skip
   go_enter Try.func36, Try.ntmps36
   go_wp2_with (go_at_call 12; refine (H1.out _).mono ?_; rintro e w' ⟨rfl, hb⟩; replace bn := below_more bn hb; replace HT := Lib.hid (HT.out.up hb); clear c0 c1 c2 lt hb; obtain ⟨c0, c1, c2, lt⟩ := HT.out)
   go_ret
   exact ⟨rfl, bn⟩
  ·have h0' : decide (p < 0) = false := decide_eq_false h0
   have h0'' : k ≤ p := by omega
   clear h0 hp
   go_enter Try.func36, Try.ntmps36
   go_wp2_with (go_at_call 12; refine (H1.out _).mono ?_; rintro e w' ⟨rfl, hb⟩; replace bn := below_more bn hb; replace HT := Lib.hid (HT.out.up hb); clear c0 c1 c2 lt hb; obtain ⟨c0, c1, c2, lt⟩ := HT.out)
   go_ret
   exact ⟨rfl, bn⟩
 ·rw [he]
  rw [hv] at h1
  have H1 := Lib.hid h1
  obtain ⟨p0, p1⟩ := hp
  have h0' : decide (p < 0) = false := decide_eq_false (by omega)
  have h0'' : decide (k ≤ p) = false := decide_eq_false (by omega)
  clear h1 hv he
  go_enter Try.func36, Try.ntmps36
  go_wp2_with (go_at_call 12; refine (H1.out _).mono ?_; rintro e w' ⟨rfl, hb⟩; replace bn := below_more bn hb; replace HT := Lib.hid (HT.out.up hb); clear c0 c1 c2 lt hb; obtain ⟨c0, c1, c2, lt⟩ := HT.out)
  go_ret
  exact ⟨rfl, bn⟩
theorem rfirst7_any (y m k p : Int) (w : World) : Calls Try.prog 16 #[calV y m k, .int .i64 p] w fun e w' => e = .returned (.tuple #[.int .i64 (pdF y m k p), .int .i64 (clE y m k p)]) ∧ Below w.heap.size w w' := by
 obtain ⟨tn, bn⟩ := tri_new w 23 y m k
 have HT := Lib.hid tn
 obtain ⟨c0, c1, c2, lt⟩ := tn
 have h1 := fun w => rcheck7_any y m k p w
 by_cases he : clE y m k p = 0
 ·obtain ⟨hv, hp⟩ := clE_yes he
  obtain ⟨-, e1, -⟩ := pd_in hv hp
  obtain ⟨a0, a1, a2⟩ := cl_month hv hp
  have h2 := fun w => rfi_any y m k p w
  unfold fiN fiE at h2
  rw [a2, if_pos rfl, if_pos rfl] at h2
  rw [e1, he]
  have H2 := Lib.hid h2
  clear h2 e1 a2
  rw [he] at h1
  have H1 := Lib.hid h1
  obtain ⟨p0, p1⟩ := hp
  obtain ⟨k0, k1⟩ := cl_k hv
  clear h1 he hv
  go_enter Try.func16, Try.ntmps16
  go_wp2_with (first | (go_at_call 36; refine (H1.out _).mono ?_; rintro e w' ⟨rfl, hb⟩; replace bn := below_more bn hb; replace HT := Lib.hid (HT.out.up hb); clear c0 c1 c2 lt hb; obtain ⟨c0, c1, c2, lt⟩ := HT.out) | (go_at_call 32; refine (H2.out _).mono ?_; rintro e w' ⟨rfl, hb⟩; replace bn := below_more bn hb; replace HT := Lib.hid (HT.out.up hb); clear c0 c1 c2 lt hb; obtain ⟨c0, c1, c2, lt⟩ := HT.out))
  go_ret2
  exact ⟨rfl, bn⟩
 ·obtain ⟨z1, z2, z3, z4, z5, z6, z7⟩ := pd_out he
  rw [z1]
  have hne : (clE y m k p != 0) = true := by simpa using he
  generalize clE y m k p = er at *
  have H1 := Lib.hid h1
  clear h1 he z1 z2 z3 z4 z5 z6 z7
  go_enter Try.func16, Try.ntmps16
  go_wp2_with (go_at_call 36; refine (H1.out _).mono ?_; rintro e w' ⟨rfl, hb⟩; replace bn := below_more bn hb; replace HT := Lib.hid (HT.out.up hb); clear c0 c1 c2 lt hb; obtain ⟨c0, c1, c2, lt⟩ := HT.out)
  go_ret2
  exact ⟨rfl, bn⟩
theorem rname7_any (y m k p : Int) (w : World) : Calls Try.prog 14 #[calV y m k, .int .i64 p] w fun e w' => e = .returned (.string (pdT y m k p)) ∧ Below w.heap.size w w' := by
 obtain ⟨tn, bn⟩ := tri_new w 23 y m k
 have HT := Lib.hid tn
 obtain ⟨c0, c1, c2, lt⟩ := tn
 have h1 := fun w => rfirst7_any y m k p w
 by_cases he : clE y m k p = 0
 ·obtain ⟨hv, hp⟩ := clE_yes he
  obtain ⟨-, e1, -⟩ := pd_in hv hp
  obtain ⟨a0, a1, -⟩ := cl_month hv hp
  have h2 := fun w => dtrtext_any (mfst (mno y m + p)) w
  have hs : (txT (mfst (mno y m + p))).size = 10 := by unfold txT; rw [vdB_iff.2 (mfst_one a0 a1).bd, if_pos rfl, civT_size]
  unfold pdT
  rw [if_pos he]
  rw [e1, he] at h1
  generalize txT (mfst (mno y m + p)) = T at *
  have hs7 : (7 : Int) ≤ T.size := by omega
  have H1 := Lib.hid h1
  have H2 := Lib.hid h2
  clear h1 h2 he e1 hv hs
  go_enter Try.func14, Try.ntmps14
  go_wp2_with (first | (go_at_call 16; refine (H1.out _).mono ?_; rintro e w' ⟨rfl, hb⟩; replace bn := below_more bn hb; replace HT := Lib.hid (HT.out.up hb); clear c0 c1 c2 lt hb; obtain ⟨c0, c1, c2, lt⟩ := HT.out) | (go_at_call 33; refine (H2.out _).mono ?_; rintro e w' ⟨rfl, hb⟩; replace bn := below_more bn hb; replace HT := Lib.hid (HT.out.up hb); clear c0 c1 c2 lt hb; obtain ⟨c0, c1, c2, lt⟩ := HT.out))
  go_ret
  exact ⟨rfl, bn⟩
 ·obtain ⟨z1, -, -, -, -, -, z7⟩ := pd_out he
  rw [z7]
  have hne : (clE y m k p != 0) = true := by simpa using he
  generalize clE y m k p = er at *
  have H1 := Lib.hid h1
  clear h1 he z1 z7
  go_enter Try.func14, Try.ntmps14
  go_wp2_with (go_at_call 16; refine (H1.out _).mono ?_; rintro e w' ⟨rfl, hb⟩; replace bn := below_more bn hb; replace HT := Lib.hid (HT.out.up hb); clear c0 c1 c2 lt hb; obtain ⟨c0, c1, c2, lt⟩ := HT.out)
  go_ret
  exact ⟨rfl, bn⟩
def clFL (y m k p : Int) (C : Bool) (T : ByteArray) : List (Nat × AS.Fact) := [(7, AS.Fact.is (.agg #[.int .i64 y, .int .i64 m, .int .i64 k])), (8, AS.Fact.is (.bool C)), (9, AS.Fact.is (.agg #[.int .i64 y, .int .i64 m, .int .i64 k])), (10, AS.Fact.is (.bool C)), (11, AS.Fact.is (.bool true)), (12, AS.Fact.is (.bool true)), (13, AS.Fact.is (.agg #[.int .i64 y, .int .i64 m, .int .i64 k])), (14, AS.Fact.is (.int .i64 p)), (15, AS.Fact.is (.string T)), (16, AS.Fact.is (.agg #[.int .i64 y, .int .i64 m, .int .i64 k])), (17, AS.Fact.is (.int .i64 p)), (18, AS.Fact.is (.string T)), (19, AS.Fact.is (.bool true)), (20, AS.Fact.is (.bool true)), (4, AS.Fact.is (.bool true))]
set_option maxRecDepth 20000 in
set_option maxHeartbeats 1600000 in
theorem law_cvalid (y m k p : Int) (w : World) : Calls Try.prog 3 #[calV y m k, .int .i64 p] w fun e w' => e = .returned (.bool true) ∧ Below w.heap.size w w' := by
 obtain ⟨tn, bn⟩ := tri_new w 23 y m k
 have HT := Lib.hid tn
 obtain ⟨c0, c1, c2, lt⟩ := tn
 have h1 := fun w => cvalid7_any y m k w
 have h2 := fun w => rvalid7_any y m k w
 have h3 := fun w => cname7_any y m k p w
 have h4 := fun w => rname7_any y m k p w
 generalize clV y m k = C at *
 generalize pdT y m k p = T at *
 have H1 := Lib.hid h1
 have H2 := Lib.hid h2
 have H3 := Lib.hid h3
 have H4 := Lib.hid h4
 clear h1 h2 h3 h4
 go_enter Try.func3, Try.ntmps3
 go_wp2_with (go_at_call 10; refine (clawake_any _).mono ?_; rintro e w' ⟨rfl, hb⟩; replace bn := below_more bn hb; replace HT := Lib.hid (HT.out.up hb); clear c0 c1 c2 lt hb; obtain ⟨c0, c1, c2, lt⟩ := HT.out)
 refine AS.region_facts (clFL y m k p C T) (DNo6 w') [[], [7], [], [9], [8, 10], [11], [12], [12], [12, 13, 14], [12], [12], [12, 16, 17], [12, 15, 18], [12, 19], [20]] [] [[]] [0, 0, 0, 0, 0, 0, 0, 0, 0, 0, 0, 0, 0, 0, 0] [] (fun u => by simp only [clFL, AS.temps, List.map_cons, List.map_nil, fillL, List.setIfInBounds_toArray, List.set_cons_zero, List.set_cons_succ]; rfl) (by kernel_rfl) (by kernel_rfl) (DNo6.st w') (dc_drew (Below.refl _ _)) ?_ ?_
 ·refine AS.sc rfl rfl rfl ?_ ?_
  ·intro k_ u w_ hk hJ hF K hK
   clear hF
   have hT := HT.out.up hJ
   obtain ⟨c0, c1, c2, lt⟩ := hT
   go_simp
   exact hK.out _ _ (Below.refl _ _) (rfl) trivial
  refine AS.sc rfl rfl rfl ?_ ?_
  ·intro k_ u w_ hk hJ hF K hK
   have h7 : u 7 = .agg #[.int .i64 y, .int .i64 m, .int .i64 k] := AS.facts_get hF 7 (by simp)
   clear hF
   simp only [h7] at hK ⊢
   clear h7
   go_simp
   refine (H1.out _).mono ?_
   rintro e w2 ⟨rfl, hb⟩
   exact hK.out _ _ hb rfl trivial
  refine AS.sc rfl rfl rfl ?_ ?_
  ·intro k_ u w_ hk hJ hF K hK
   clear hF
   have hT := HT.out.up hJ
   obtain ⟨c0, c1, c2, lt⟩ := hT
   go_simp
   exact hK.out _ _ (Below.refl _ _) (rfl) trivial
  refine AS.sc rfl rfl rfl ?_ ?_
  ·intro k_ u w_ hk hJ hF K hK
   have h9 : u 9 = .agg #[.int .i64 y, .int .i64 m, .int .i64 k] := AS.facts_get hF 9 (by simp)
   clear hF
   simp only [h9] at hK ⊢
   clear h9
   go_simp
   refine (H2.out _).mono ?_
   rintro e w2 ⟨rfl, hb⟩
   exact hK.out _ _ hb rfl trivial
  refine AS.sc rfl rfl rfl ?_ ?_
  ·intro k_ u w_ hk hJ hF K hK
   have h8 : u 8 = .bool C := AS.facts_get hF 8 (by simp)
   have h10 : u 10 = .bool C := AS.facts_get hF 10 (by simp)
   clear hF
   simp only [h8, h10] at hK ⊢
   clear h8 h10
   go_simp
   exact hK.out _ _ (Below.refl _ _) (rfl) trivial
  refine AS.sc rfl rfl rfl ?_ ?_
  ·intro k_ u w_ hk hJ hF K hK
   have h11 : u 11 = .bool true := AS.facts_get hF 11 (by simp)
   clear hF
   simp only [h11] at hK ⊢
   clear h11
   go_simp
   exact hK.out _ _ (Below.refl _ _) (rfl) trivial
  refine AS.sc rfl rfl rfl ?_ ?_
  ·intro k_ u w_ hk hJ hF K hK
   have h12 : u 12 = .bool true := AS.facts_get hF 12 (by simp)
   clear hF
   simp only [h12] at hK ⊢
   clear h12
   have hT := HT.out.up hJ
   obtain ⟨c0, c1, c2, lt⟩ := hT
   go_simp
   exact hK.out _ _ (Below.refl _ _) (rfl) trivial
  refine AS.sc rfl rfl rfl ?_ ?_
  ·intro k_ u w_ hk hJ hF K hK
   have h12 : u 12 = .bool true := AS.facts_get hF 12 (by simp)
   clear hF
   simp only [h12] at hK ⊢
   clear h12
   go_simp
   exact hK.out _ _ (Below.refl _ _) (rfl) trivial
  refine AS.sc rfl rfl rfl ?_ ?_
  ·intro k_ u w_ hk hJ hF K hK
   have h12 : u 12 = .bool true := AS.facts_get hF 12 (by simp)
   have h13 : u 13 = .agg #[.int .i64 y, .int .i64 m, .int .i64 k] := AS.facts_get hF 13 (by simp)
   have h14 : u 14 = .int .i64 p := AS.facts_get hF 14 (by simp)
   clear hF
   simp only [h12, h13, h14] at hK ⊢
   clear h12 h13 h14
   go_simp
   refine (H3.out _).mono ?_
   rintro e w2 ⟨rfl, hb⟩
   exact hK.out _ _ hb rfl trivial
  refine AS.sc rfl rfl rfl ?_ ?_
  ·intro k_ u w_ hk hJ hF K hK
   have h12 : u 12 = .bool true := AS.facts_get hF 12 (by simp)
   clear hF
   simp only [h12] at hK ⊢
   clear h12
   have hT := HT.out.up hJ
   obtain ⟨c0, c1, c2, lt⟩ := hT
   go_simp
   exact hK.out _ _ (Below.refl _ _) (rfl) trivial
  refine AS.sc rfl rfl rfl ?_ ?_
  ·intro k_ u w_ hk hJ hF K hK
   have h12 : u 12 = .bool true := AS.facts_get hF 12 (by simp)
   clear hF
   simp only [h12] at hK ⊢
   clear h12
   go_simp
   exact hK.out _ _ (Below.refl _ _) (rfl) trivial
  refine AS.sc rfl rfl rfl ?_ ?_
  ·intro k_ u w_ hk hJ hF K hK
   have h12 : u 12 = .bool true := AS.facts_get hF 12 (by simp)
   have h16 : u 16 = .agg #[.int .i64 y, .int .i64 m, .int .i64 k] := AS.facts_get hF 16 (by simp)
   have h17 : u 17 = .int .i64 p := AS.facts_get hF 17 (by simp)
   clear hF
   simp only [h12, h16, h17] at hK ⊢
   clear h12 h16 h17
   go_simp
   refine (H4.out _).mono ?_
   rintro e w2 ⟨rfl, hb⟩
   exact hK.out _ _ hb rfl trivial
  refine AS.sc rfl rfl rfl ?_ ?_
  ·intro k_ u w_ hk hJ hF K hK
   have h12 : u 12 = .bool true := AS.facts_get hF 12 (by simp)
   have h15 : u 15 = .string T := AS.facts_get hF 15 (by simp)
   have h18 : u 18 = .string T := AS.facts_get hF 18 (by simp)
   clear hF
   simp only [h12, h15, h18] at hK ⊢
   clear h12 h15 h18
   go_simp
   exact hK.out _ _ (Below.refl _ _) (rfl) trivial
  refine AS.sc rfl rfl rfl ?_ ?_
  ·intro k_ u w_ hk hJ hF K hK
   have h12 : u 12 = .bool true := AS.facts_get hF 12 (by simp)
   have h19 : u 19 = .bool true := AS.facts_get hF 19 (by simp)
   clear hF
   simp only [h12, h19] at hK ⊢
   clear h12 h19
   go_simp
   exact hK.out _ _ (Below.refl _ _) (rfl) trivial
  refine AS.sc rfl rfl rfl ?_ ?_
  ·intro k_ u w_ hk hJ hF K hK
   have h20 : u 20 = .bool true := AS.facts_get hF 20 (by simp)
   clear hF
   simp only [h20] at hK ⊢
   clear h20
   go_simp
   exact hK.out _ _ (Below.refl _ _) (rfl) trivial
  exact AS.StepsOk.nil
 ·intro u W9 hJ9 hF
  have h4 : u 4 = .bool true := AS.facts_get hF 4 (by simp [clFL, AS.temps])
  have hB9 : Below w'.heap.size w' W9 := hJ9
  clear hF hJ9
  replace bn := below_more bn hB9
  simp only [h4]
  go_wp2_with fail
  go_ret
  exact ⟨rfl, bn⟩
end Go.Proofs.Ytdloccpcbcpdgaa
