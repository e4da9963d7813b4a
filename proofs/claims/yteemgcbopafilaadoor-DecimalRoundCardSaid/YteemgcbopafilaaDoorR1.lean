/- Contracts of the functions that the statements reach, part 1: what was proved of each, callees first. -/
import Derived.Deep.RegionHeld
import Derived.Below
import Derived.Deep.Draws
import Derived.StillTail
import Derived.Shelf.Strings.Builder1
import Derived.Shelf.Strings.Builder2
import Derived.Shelf.Small.Wraps
import Derived.Shelf.Strings.BuilderF
import Derived.Shelf.Strings.BuilderK
import Derived.Shelf.Strings.Builder2Cap
import Derived.Shelf.Strconv.Itoa0
import Derived.Shelf.Strconv.Itoa1
import Derived.Shelf.LaysM
import Derived.Shelf.Strconv.Itoa2
import Derived.Shelf.Strconv.Itoa3
import Derived.Shelf.Strings.Prefix
import Derived.Shelf.Bits.Mul64
import Derived.Shelf.Strings.Repeat
import Derived.Shelf.Strings.BuilderCap
import Derived.Test.YteemgcbopafilaaDoorProg
import Derived.Lib.AppendIntMem
import Derived.Lib.ItoaLen
import Derived.Shelf.Strings.SlTrimAscii
import Derived.Lib.AtoiErrMem
import Derived.Lib.AtoiAll
import Derived.Lib.AtoiAllCases
import Derived.Lib.IndexMore
import Derived.Lib.IndexAny
import Derived.LoopTactic
import Derived.Laws.BytesString
import Derived.Laws.Cells
import Derived.WideShapes
import Derived.WalkLawsBesides
import Derived.WalkSpells
import Derived.Deep.Cut
import Derived.Outline
import Derived.RegionTactic
import Derived.ChangeAlike
import Derived.Deep.RegionHeld3
import Derived.Laws.EntriesVeiled
import Derived.Deep.QuietTactic
import Derived.BigQuiet
namespace Go.Proofs.YteemgcbopafilaaDoor
open Go Go.RowKit
structure Fact where
 p : Value → World → Prop
 st : ∀ v w w', Below w.heap.size w w' → p v w → p v w'
def Fact.triv : Fact := ⟨fun _ _ => True, fun _ _ _ _ _ => trivial⟩
def look : List (Nat × Fact) → Nat → Fact
 | [], _ => Fact.triv
 | (k, f) :: rest, d => bif Nat.beq k d then f else look rest d
def factOf (FL : List (Nat × Fact)) (dst : Option Nat) (v : Value) (w : World) : Prop := match dst with
 | none => True
 | some d => (look FL d).p v w
def fillL (u : Nat → Value) : List Nat → Array Value → Array Value
 | [], t => t
 | d :: ds, t => fillL u ds (t.setIfInBounds d (u d))
def upd (u : Nat → Value) (d : Option Nat) (v : Value) (n : Nat) : Value := match d with
 | none => u n
 | some d => if n = d then v else u n
theorem fillL_size (u : Nat → Value) (ds : List Nat) : ∀ t : Array Value, (fillL u ds t).size = t.size := by
 induction ds with
 | nil => intro t; rfl
 | cons d ds ih => intro t; rw [fillL, ih]; simp
theorem fillL_get (u : Nat → Value) (ds : List Nat) : ∀ (t : Array Value) (n : Nat), (fillL u ds t)[n]? = if n < t.size then (if n ∈ ds then some (u n) else t[n]?) else none := by
 induction ds with
 | nil => intro t n; by_cases h : n < t.size <;> simp [fillL, h]
 | cons d ds ih =>
  intro t n
  rw [fillL, ih]
  by_cases h : n < t.size
  ·simp only [Array.size_setIfInBounds, h, if_true, List.mem_cons]
   by_cases h1 : n ∈ ds
   ·simp [h1]
   ·by_cases h2 : n = d
    ·subst h2; simp [h1, h]
    ·simp only [h1, h2, if_false, or_self]; rw [Array.getElem?_setIfInBounds_ne (Ne.symm h2)]
  ·simp [h]
theorem fillL_upd (u : Nat → Value) (ds : List Nat) (t : Array Value) (d : Nat) (v : Value) (hd : d ∈ ds) : (fillL u ds t).setIfInBounds d v = fillL (upd u (some d) v) ds t := by
 apply Array.ext_getElem?
 intro n
 rw [Array.getElem?_setIfInBounds, fillL_get, fillL_get, fillL_size]
 by_cases h : n < t.size
 ·by_cases h2 : d = n
  ·subst h2; simp [h, hd, upd]
  ·simp only [h, h2, if_true, if_false]
   by_cases h3 : n ∈ ds
   ·simp [h3, upd, Ne.symm h2]
   ·simp [h3]
 ·simp only [h, if_false]
  by_cases h2 : d = n
  ·subst h2; simp [h]
  ·simp [h2]
theorem fillL_self (ds : List Nat) (t : Array Value) : fillL (fun d => t.getD d undef) ds t = t := by
 apply Array.ext_getElem?
 intro n
 rw [fillL_get]
 by_cases h : n < t.size
 ·simp [h]
 ·simp [h]
theorem filter_less {p q : Nat → Bool} {i : Nat} (hpi : p i = true) (hqi : q i = false) (h : ∀ j, q j = true → p j = true) : ∀ l : List Nat, i ∈ l → (l.filter q).length < (l.filter p).length := by
 have hle : ∀ l : List Nat, (l.filter q).length ≤ (l.filter p).length := by
  intro l
  induction l with
  | nil => simp
  | cons x l ih =>
   rw [List.filter_cons, List.filter_cons]
   by_cases hq : q x = true
   ·simp [hq, h x hq]; exact ih
   ·by_cases hp : p x = true <;> simp [hq, hp] <;> omega
 intro l hl
 induction l with
 | nil => cases hl
 | cons x l ih =>
  rw [List.filter_cons, List.filter_cons]
  rcases List.mem_cons.1 hl with rfl | hl
  ·simp [hpi, hqi]; have := hle l; omega
  ·have := ih hl
   by_cases hq : q x = true
   ·simp [hq, h x hq]; exact this
   ·by_cases hp : p x = true <;> simp [hq, hp] <;> omega
section
variable {P : Program} {ops : Array Oper} {Q : Exit → Act → World → Prop} {FL : List (Nat × Fact)} {J : World → Prop} {t0 : Array Value} {df : List Deferred} {ds : List Nat}
theorem put_fill (u : Nat → Value) (o : Oper) (v : Value) (hd : ∀ d, o.dst = some d → d ∈ ds) : (⟨fillL u ds t0, df⟩ : Act).put o.dst v = ⟨fillL (upd u o.dst v) ds t0, df⟩ := by
 cases h : o.dst with
 | none => rfl
 | some d =>
  show Act.mk ((fillL u ds t0).setIfInBounds d v) df = _
  rw [fillL_upd _ _ _ _ _ (hd d h)]
theorem none_listed (n j : Nat) : (Array.replicate n false).getD j false = false := by
 by_cases h : j < n <;> simp [h]
end
open Go Go.RowKit
def AS.NoInt (w : World) (b : Nat) : Prop := ∀ j k n, w.cell? ⟨b, j, none⟩ ≠ some (.int k n)
open AS (NoInt)
def Leaf (x : Value) : Prop := ∀ k n, x ≠ .int k n
structure Bx (t : TypeId) (w : World) (g : Nat) (vs : List Value) : Prop where
 blk : w.heap[g]? = some (.cells vs.toArray t (0, 0))
 leaf : ∀ v ∈ vs, Leaf v
section
variable {t : TypeId} {w w' : World} {g : Nat} {vs : List Value}
theorem Bx.lt (h : Bx t w g vs) : g < w.heap.size := by
 rcases Nat.lt_or_ge g w.heap.size with hlt | hge
 ·exact hlt
 ·have := h.blk; rw [Array.getElem?_eq_none hge] at this; cases this
theorem Bx.up (h : Bx t w g vs) (hb : Below w.heap.size w w') : Bx t w' g vs := ⟨(hb.block g h.lt).trans h.blk, h.leaf⟩
end
end Go.Proofs.YteemgcbopafilaaDoor
namespace Go.Proofs.YteemgcbopafilaaDoor.AS
open Go Go.RowKit
open Go.Proofs.YteemgcbopafilaaDoor (fillL upd fillL_size fillL_get fillL_upd fillL_self filter_less none_listed put_fill)
structure Keep (w w' : World) : Prop where
 size : w.heap.size ≤ w'.heap.size
 blk : ∀ i, i < w.heap.size → (∃ j k n, w.cell? ⟨i, j, none⟩ = some (.int k n)) → w'.heap[i]? = w.heap[i]?
 box : ∀ (t : TypeId) (g : Nat) (vs : List Value), 2 ≤ vs.length → Bx t w g vs → ∃ vs' : List Value, vs'.length = vs.length ∧ Bx t w' g vs'
theorem Keep.ofBelow {w w' : World} (h : Below w.heap.size w w') : Keep w w' := ⟨h.size, fun i hi _ => h.block i hi, fun _ _ vs _ hb => ⟨vs, rfl, hb.up h⟩⟩
structure Fact where
 p : Value → World → Prop
 st : ∀ v w w', Keep w w' → p v w → p v w'
def Fact.triv : Fact := ⟨fun _ _ => True, fun _ _ _ _ _ => trivial⟩
def Fact.is (x : Value) : Fact := ⟨fun v _ => v = x, fun _ _ _ _ h => h⟩
def look : List (Nat × Fact) → Nat → Fact
 | [], _ => Fact.triv
 | (k, f) :: rest, d => bif Nat.beq k d then f else look rest d
def temps (FL : List (Nat × Fact)) : List Nat := FL.map (·.1)
def factOf (FL : List (Nat × Fact)) (dst : Option Nat) (v : Value) (w : World) : Prop := match dst with
 | none => True
 | some d => (look FL d).p v w
def Facts (FL : List (Nat × Fact)) (u : Nat → Value) (w : World) : List Nat → Prop
 | [] => True
 | d :: ds => (look FL d).p (u d) w ∧ Facts FL u w ds
theorem facts_mk {FL : List (Nat × Fact)} {u : Nat → Value} {w : World} {ds : List Nat} (h : ∀ d ∈ ds, (look FL d).p (u d) w) : Facts FL u w ds := by
 induction ds with
 | nil => trivial
 | cons d ds ih => exact ⟨h d (List.mem_cons_self ..), ih fun e he => h e (List.mem_cons_of_mem _ he)⟩
theorem facts_get {FL : List (Nat × Fact)} {u : Nat → Value} {w : World} {ds : List Nat} (h : Facts FL u w ds) (d : Nat) (hd : d ∈ ds) : (look FL d).p (u d) w := by
 induction ds with
 | nil => cases hd
 | cons e ds ih =>
  rcases List.mem_cons.1 hd with rfl | hd
  ·exact h.1
  ·exact ih h.2 hd
def edgesOk (ops : Array Oper) : Bool := (List.range ops.size).all fun i => match ops[i]? with
 | none => true
 | some o => o.after.all fun e => !Region.binds .any e || decide (e.on < i)
def needsOk (ops : Array Oper) (pt : List (List Nat)) (ds : List Nat) : Bool :=
 (List.range ops.size).all fun i => match ops[i]? with
  | none => true
  | some o => (match o.dst with | some d => ds.contains d | none => true) &&
   (pt.getD i []).all fun d => o.after.any fun e => Region.binds .any e && ((match ops[e.on]? with | some o' => o'.dst == some d | none => false) || (pt.getD e.on []).contains d)
def onceOk (ops : Array Oper) : Bool := (List.range ops.size).all fun i => (List.range ops.size).all fun j => match ops[i]?, ops[j]? with
 | some o, some o' => Nat.beq i j || (match o.dst, o'.dst with | some d, some d' => !Nat.beq d d' | _, _ => true)
 | _, _ => true
def storesOk (ops : Array Oper) (pt : List (List Nat)) (st : List Nat) (js : List (List Nat)) : Bool :=
 (List.range st.length).all fun m => decide (st.getD m 0 < ops.size) && (match ops[st.getD m 0]? with | some o => o.dst == none | none => false) &&
  (Nat.beq m 0 || Region.waitsFor .any ops (st.getD m 0) (st.getD (m - 1) 0)) && (js.getD (m + 1) []).all fun d => (pt.getD (st.getD m 0) []).contains d || (js.getD m []).contains d
def waits2 (ops : Array Oper) (s i : Nat) : Bool := Region.waitsFor .any ops s i || (List.range ops.size).any fun j => Region.waitsFor .any ops s j && Region.waitsFor .any ops j i
def limOk (ops : Array Oper) (st lm : List Nat) : Bool :=
 (List.range ops.size).all fun i => Nat.beq (lm.getD i st.length) st.length || waits2 ops (st.getD (lm.getD i st.length) ops.size) i
def allWritten (ops : Array Oper) (ds : List Nat) : Bool := ds.all fun d => ops.any fun o => o.dst == some d
def allocsOk (ops : Array Oper) (al st : List Nat) : Bool := al.all fun d => st.all fun s => (List.range ops.size).any fun i => (match ops[i]? with | some o => o.dst == some d | none => false) && waits2 ops s i
def chk (al : List Nat) (ops : Array Oper) (pt : List (List Nat)) (ds st : List Nat) (js : List (List Nat)) (lm : List Nat) : Bool :=
 allocsOk ops al st && al.all ds.contains && edgesOk ops && needsOk ops pt ds && onceOk ops && storesOk ops pt st js && limOk ops st lm && allWritten ops ds && (js.getD 0 []).isEmpty
section
variable {P : Program} {ops : Array Oper} {Q : Exit → Act → World → Prop} {FL : List (Nat × Fact)} {J : Nat → List Value → World → Prop} {t0 : Array Value} {df : List Deferred} {ds : List Nat}
 {st lm al : List Nat} {js : List (List Nat)} {pt : List (List Nat)}
def aOk (al : List Nat) (dst : Option Nat) (v : Value) (w w' : World) : Prop := match dst with
 | some d => bif al.contains d then v = .pointer (some ⟨w.heap.size, 0, none⟩) ∧ w.heap.size < w'.heap.size else True
 | none => True
def Apart (al : List Nat) (u : Nat → Value) : Prop := ∀ d ∈ al, ∀ d' ∈ al, d ≠ d' → u d ≠ u d'
def StepOk (al : List Nat) (P : Program) (ops : Array Oper) (Q : Exit → Act → World → Prop) (FL : List (Nat × Fact)) (J : Nat → List Value → World → Prop) (js : List (List Nat)) (fr : (Nat → Value) → Array Value) (df : List Deferred) (o : Oper) (need : List Nat) (lim : Nat) : Prop :=
 ∀ (k : Nat) (u : Nat → Value) (w : World), k ≤ lim → J k ((js.getD k []).map u) w → Facts FL u w need → ∀ K : Act → World → Prop, Shut (∀ v w', Below w.heap.size w w' → factOf FL o.dst v w' → aOk al o.dst v w w' → K ((⟨fr u, df⟩ : Act).put o.dst v) w') →
  if Region.wanted o (yielded ops (fr u)) = true then Oper.wp P o ⟨fr u, df⟩ w K Q else K ((⟨fr u, df⟩ : Act).put o.dst undef) w
def StoreOk (al : List Nat) (P : Program) (ops : Array Oper) (Q : Exit → Act → World → Prop) (FL : List (Nat × Fact)) (J : Nat → List Value → World → Prop) (js : List (List Nat)) (fr : (Nat → Value) → Array Value) (df : List Deferred) (o : Oper) (need : List Nat) (k : Nat) : Prop :=
 ∀ (u : Nat → Value) (w : World), J k ((js.getD k []).map u) w → Apart al u → Facts FL u w need → ∀ K : Act → World → Prop, Shut (∀ v w', J (k + 1) ((js.getD (k + 1) []).map u) w' → Keep w w' → K ((⟨fr u, df⟩ : Act).put o.dst v) w') →
  if Region.wanted o (yielded ops (fr u)) = true then Oper.wp P o ⟨fr u, df⟩ w K Q else K ((⟨fr u, df⟩ : Act).put o.dst undef) w
def StepsOk (al : List Nat) (P : Program) (ops : Array Oper) (Q : Exit → Act → World → Prop) (FL : List (Nat × Fact)) (J : Nat → List Value → World → Prop) (js : List (List Nat)) (fr : (Nat → Value) → Array Value) (df : List Deferred) (pt : List (List Nat)) (st lm : List Nat) : List Oper → Nat → Prop
 | [], _ => True
 | o :: rest, i => (match st.idxOf? i with
   | some k => StoreOk al P ops Q FL J js fr df o (pt.getD i []) k
   | none => StepOk al P ops Q FL J js fr df o (pt.getD i []) (lm.getD i st.length)) ∧ StepsOk al P ops Q FL J js fr df pt st lm rest (i + 1)
theorem StepsOk.nil {fr : (Nat → Value) → Array Value} {i : Nat} : StepsOk al P ops Q FL J js fr df pt st lm [] i := trivial
theorem sc {fr : (Nat → Value) → Array Value} {o : Oper} {rest : List Oper} {i : Nat} {need : List Nat} {lim : Nat} (h0 : st.idxOf? i = none) (h1 : pt.getD i [] = need) (h2 : lm.getD i st.length = lim)
  (h : StepOk al P ops Q FL J js fr df o need lim) (hs : StepsOk al P ops Q FL J js fr df pt st lm rest (i + 1)) : StepsOk al P ops Q FL J js fr df pt st lm (o :: rest) i := ⟨by rw [h0, h1, h2]; exact h, hs⟩
theorem steps_at {fr : (Nat → Value) → Array Value} : ∀ (l : List Oper) (i0 : Nat), StepsOk al P ops Q FL J js fr df pt st lm l i0 → ∀ i o, l[i]? = some o → (match st.idxOf? (i0 + i) with
      | some k => StoreOk al P ops Q FL J js fr df o (pt.getD (i0 + i) []) k
      | none => StepOk al P ops Q FL J js fr df o (pt.getD (i0 + i) []) (lm.getD (i0 + i) st.length)) := by
  intro l
  induction l with
  | nil => intro i0 _ i o h; simp at h
  | cons x l ih =>
    intro i0 hs i o h
    cases i with
    | zero => simp at h; subst h; exact hs.1
    | succ i =>
      have := ih (i0 + 1) hs.2 i o (by simpa using h)
      rwa [show i0 + 1 + i = i0 + (i + 1) by omega] at this
def Written (ops : Array Oper) (listed : Array Bool) (d : Nat) : Prop := ∃ j o', listed.getD j false = true ∧ ops[j]? = some o' ∧ o'.dst = some d
structure Inv (al : List Nat) (ops : Array Oper) (FL : List (Nat × Fact)) (J : Nat → List Value → World → Prop) (js : List (List Nat)) (t0 : Array Value) (df : List Deferred) (ds : List Nat) (pt : List (List Nat)) (st : List Nat) (listed : Array Bool) (a : Act) (w : World) : Prop where
 fr : ∃ k u, a = ⟨fillL u ds t0, df⟩ ∧ (∀ d, Written ops listed d → (look FL d).p (u d) w) ∧ J k ((js.getD k []).map u) w ∧ k ≤ st.length ∧ (∀ m, m < k → listed.getD (st.getD m 0) false = true) ∧
  (∀ m, k ≤ m → m < st.length → listed.getD (st.getD m 0) false = false) ∧ (∀ d ∈ js.getD k [], Written ops listed d) ∧ (∀ d ∈ al, Written ops listed d → ∃ g, u d = .pointer (some ⟨g, 0, none⟩) ∧ g < w.heap.size) ∧
  (∀ d ∈ al, ∀ d' ∈ al, d ≠ d' → Written ops listed d → Written ops listed d' → u d ≠ u d')
 cl : ∀ i, listed.getD i false = true → ∀ d ∈ pt.getD i [], Written ops listed d
 cs : ∀ j oj, ops[j]? = some oj → listed.getD j false = true → ∀ e ∈ oj.after, Region.binds .any e = true → listed.getD e.on false = true
 sz : listed.size = ops.size
theorem Written.more {listed : Array Bool} {d i : Nat} (h : Written ops listed d) : Written ops (listed.setIfInBounds i true) d := by
 obtain ⟨j, o', h1, h2, h3⟩ := h
 exact ⟨j, o', getD_set_true h1, h2, h3⟩
theorem getD_flag {listed : Array Bool} {i : Nat} (h : i < listed.size) : listed.getD i true = listed.getD i false := by simp [h]
structure Chk (al : List Nat) (ops : Array Oper) (pt : List (List Nat)) (ds st : List Nat) (js : List (List Nat)) (lm : List Nat) : Prop where
 edge : ∀ (i : Nat) (o : Oper), ops[i]? = some o → ∀ e ∈ o.after, Region.binds .any e = true → e.on < i
 dst : ∀ (i : Nat) (o : Oper), ops[i]? = some o → ∀ d, o.dst = some d → d ∈ ds
 need : ∀ (i : Nat) (o : Oper), ops[i]? = some o → ∀ d ∈ pt.getD i [], ∃ e ∈ o.after, Region.binds .any e = true ∧ ((∃ o' : Oper, ops[e.on]? = some o' ∧ o'.dst = some d) ∨ d ∈ pt.getD e.on [])
 once : ∀ (i j : Nat) (o o' : Oper) (d : Nat), ops[i]? = some o → ops[j]? = some o' → o.dst = some d → o'.dst = some d → i = j
 slt : ∀ m, m < st.length → st.getD m 0 < ops.size
 sdst : ∀ m, m < st.length → ∀ o : Oper, ops[st.getD m 0]? = some o → o.dst = none
 schain : ∀ m, 0 < m → m < st.length → Region.waitsFor .any ops (st.getD m 0) (st.getD (m - 1) 0) = true
 sjs : ∀ m, m < st.length → ∀ d ∈ js.getD (m + 1) [], d ∈ pt.getD (st.getD m 0) [] ∨ d ∈ js.getD m []
 lim : ∀ i, i < ops.size → lm.getD i st.length = st.length ∨ waits2 ops (st.getD (lm.getD i st.length) ops.size) i = true
 wr : ∀ d ∈ ds, ∃ (i : Nat) (o : Oper), ops[i]? = some o ∧ o.dst = some d
 js0 : js.getD 0 [] = []
 alw : ∀ d ∈ al, ∀ m, m < st.length → ∃ (i : Nat) (o : Oper), ops[i]? = some o ∧ o.dst = some d ∧ waits2 ops (st.getD m 0) i = true
 ald : ∀ d ∈ al, d ∈ ds
theorem chk_spec (h : chk al ops pt ds st js lm = true) : Chk al ops pt ds st js lm := by
 unfold chk at h
 simp only [Bool.and_eq_true] at h
 obtain ⟨⟨⟨⟨⟨⟨⟨⟨h8, h9⟩, h1⟩, h2⟩, h3⟩, h4⟩, h5⟩, h6⟩, h7⟩ := h
 have lt : ∀ (i : Nat) (o : Oper), ops[i]? = some o → i ∈ List.range ops.size := fun i o ho => List.mem_range.2 (Array.getElem?_eq_some_iff.1 ho).1
 constructor
 ·intro i o ho e he hb
  have h := List.all_eq_true.1 h1 i (lt i o ho)
  rw [ho] at h
  dsimp only at h
  rw [Array.all_eq_true_iff_forall_mem] at h
  have h := h e he
  rw [hb] at h
  simpa using h
 ·intro i o ho d hd
  have h := List.all_eq_true.1 h2 i (lt i o ho)
  rw [ho] at h
  dsimp only at h
  rw [hd] at h
  simp only [Bool.and_eq_true] at h
  simpa using h.1
 ·intro i o ho d hd
  have h := List.all_eq_true.1 h2 i (lt i o ho)
  rw [ho] at h
  simp only [Bool.and_eq_true] at h
  have h := List.all_eq_true.1 h.2 d hd
  rw [Array.any_eq_true] at h
  obtain ⟨k, hk, h⟩ := h
  rw [Bool.and_eq_true, Bool.or_eq_true] at h
  refine ⟨o.after[k], Array.getElem_mem _, h.1, ?_⟩
  rcases h.2 with h4 | h4
  ·left
   cases h5 : ops[(o.after[k]).on]? with
   | none => rw [h5] at h4; cases h4
   | some o' => rw [h5] at h4; exact ⟨o', rfl, by simpa using h4⟩
  ·right; simpa using h4
 ·intro i j o o' d ho ho' hd hd'
  have h := List.all_eq_true.1 (List.all_eq_true.1 h3 i (lt i o ho)) j (lt j o' ho')
  rw [ho, ho'] at h
  dsimp only at h
  rw [hd, hd'] at h
  simpa using h
 ·intro m hm
  have h := List.all_eq_true.1 h4 m (List.mem_range.2 hm)
  simp only [Bool.and_eq_true, decide_eq_true_eq] at h
  exact h.1.1.1
 ·intro m hm o ho
  have h := List.all_eq_true.1 h4 m (List.mem_range.2 hm)
  simp only [Bool.and_eq_true, decide_eq_true_eq] at h
  have h := h.1.1.2
  rw [ho] at h
  simpa using h
 ·intro m h0 hm
  have h := List.all_eq_true.1 h4 m (List.mem_range.2 hm)
  simp only [Bool.and_eq_true, decide_eq_true_eq, Bool.or_eq_true, Nat.beq_eq] at h
  rcases h.1.2 with h | h
  ·omega
  ·exact h
 ·intro m hm d hd
  have h := List.all_eq_true.1 h4 m (List.mem_range.2 hm)
  simp only [Bool.and_eq_true] at h
  have h := List.all_eq_true.1 h.2 d hd
  simpa using h
 ·intro i hi
  have h := List.all_eq_true.1 h5 i (List.mem_range.2 hi)
  simp only [Bool.or_eq_true, Nat.beq_eq] at h
  exact h
 ·intro d hd
  have h := List.all_eq_true.1 h6 d hd
  rw [Array.any_eq_true] at h
  obtain ⟨k, hk, h⟩ := h
  exact ⟨k, ops[k], by simp [hk], by simpa using h⟩
 ·simpa using h7
 ·intro d hd m hm
  have h := List.all_eq_true.1 (List.all_eq_true.1 h8 d hd) (st.getD m 0) (by simp [hm])
  obtain ⟨i, hi, h⟩ := List.any_eq_true.1 h
  rw [Bool.and_eq_true] at h
  cases ho : ops[i]? with
  | none => rw [ho] at h; cases h.1
  | some o => rw [ho] at h; exact ⟨i, o, ho, by simpa using h.1, h.2⟩
 ·intro d hd
  have h := List.all_eq_true.1 h9 d hd
  simpa using h
theorem inv_step (hc : Chk al ops pt ds st js lm) (hst : ∀ k l w w', Below w.heap.size w w' → J k l w → J k l w') (hs : StepsOk al P ops Q FL J js (fun u => fillL u ds t0) df pt st lm ops.toList 0) {listed : Array Bool} {a : Act} {w : World}
    (hI : Inv al ops FL J js t0 df ds pt st listed a w) {i : Nat} (hi : i ∈ Region.ready .any ops listed) :
    wpOp P ops Q i (Inv al ops FL J js t0 df ds pt st (listed.setIfInBounds i true)) a w := by
  obtain ⟨h0, o, ho, hall⟩ := mem_ready.1 hi
  have hlt : i < ops.size := (Array.getElem?_eq_some_iff.1 ho).1
  have hil : i < listed.size := by rw [hI.sz]; exact hlt
  have hun : listed.getD i false = false := by rw [← getD_flag hil]; exact h0
  obtain ⟨k, u, rfl, hfac, hJ, hk, hk1, hk2, hk3, hk4, hk5⟩ := hI.fr
  have hneed : ∀ d ∈ pt.getD i [], Written ops listed d := by
    intro d hd
    obtain ⟨e, he, hb, h1⟩ := hc.need i o ho d hd
    have h2 := hall e he hb
    rcases h1 with ⟨o', h3, h4⟩ | h3
    · exact ⟨e.on, o', h2, h3, h4⟩
    · exact hI.cl e.on h2 d h3
  have hstep := steps_at _ _ hs i o (by simpa using ho)
  rw [Nat.zero_add] at hstep
  have hcs : ∀ j oj, ops[j]? = some oj → (listed.setIfInBounds i true).getD j false = true → ∀ e ∈ oj.after, Region.binds .any e = true → (listed.setIfInBounds i true).getD e.on false = true := by
    intro j oj hj hl e he hb
    by_cases hij : i = j
    · subst hij
      have : oj = o := Option.some.inj (hj.symm.trans ho)
      subst this
      exact getD_set_true (hall e he hb)
    · rw [getD_set_ne false hij] at hl
      exact getD_set_true (hI.cs j oj hj hl e he hb)
  have hcl : ∀ j, (listed.setIfInBounds i true).getD j false = true → ∀ d ∈ pt.getD j [], Written ops (listed.setIfInBounds i true) d := by
    intro j hj d hd
    by_cases hij : i = j
    · subst hij; exact (hneed d hd).more
    · rw [getD_set_ne false hij] at hj
      exact (hI.cl j hj d hd).more
  have hwait : ∀ m, m < k → ∀ j, Region.waitsFor .any ops (st.getD m 0) j = true → listed.getD j false = true := by
    intro m hm j hw
    obtain ⟨oj, hoj, e, he, hb, hon⟩ := Region.waitsFor_spec hw
    rw [← hon]
    exact hI.cs _ oj hoj (hk1 m hm) e he hb
  have hwait2 : ∀ m, m < k → ∀ j, waits2 ops (st.getD m 0) j = true → listed.getD j false = true := by
    intro m hm j hw
    unfold waits2 at hw
    rw [Bool.or_eq_true] at hw
    rcases hw with hw | hw
    · exact hwait m hm j hw
    · obtain ⟨x, -, hx⟩ := List.any_eq_true.1 hw
      rw [Bool.and_eq_true] at hx
      obtain ⟨oj, hoj, e, he, hb, hon⟩ := Region.waitsFor_spec hx.2
      rw [← hon]
      exact hI.cs _ oj hoj (hwait m hm x hx.1) e he hb
  cases hsi : st.idxOf? i with
  | none =>
    rw [hsi] at hstep
    have hns : ∀ m, m < st.length → st.getD m 0 ≠ i := by
      intro m hm e
      have h1 : i ∈ st := by rw [← e]; simp [hm]
      have h2 := List.idxOf?_eq_none_iff.1 hsi
      exact h2 h1
    have hlim : k ≤ lm.getD i st.length := by
      rcases hc.lim i hlt with h1 | h1
      · omega
      · rcases Nat.lt_or_ge (lm.getD i st.length) k with h2 | h2
        · exfalso
          have h3 := hwait2 _ h2 i (by
            have e : st.getD (lm.getD i st.length) ops.size = st.getD (lm.getD i st.length) 0 := by
              have : lm.getD i st.length < st.length := by omega
              generalize lm.getD i st.length = z at *
              simp [this]
            rw [← e]; exact h1)
          rw [hun] at h3; cases h3
        · exact h2
    refine wpOp_step ho (fun K' hK => hstep k u w hlim hJ (facts_mk fun d hd => hfac d (hneed d hd)) K' ?_)
    intro v w' hb hf hao
    have hwi : ∀ d, Written ops (listed.setIfInBounds i true) d → o.dst = some d ∨ Written ops listed d := by
      rintro d ⟨j, o', h1, h2, h3⟩
      by_cases hij : i = j
      · subst hij
        rw [ho] at h2
        injection h2 with h2
        subst h2
        exact .inl h3
      · rw [getD_set_ne false hij] at h1
        exact .inr ⟨j, o', h1, h2, h3⟩
    have hnw : ∀ d, o.dst = some d → ¬ Written ops listed d := by
      rintro d hd ⟨j, o', h1, h2, h3⟩
      have := hc.once i j o o' d ho h2 hd h3
      subst this
      rw [hun] at h1; cases h1
    have hne : ∀ d, o.dst ≠ some d → upd u o.dst v d = u d := by
      intro d hd
      cases h : o.dst with
      | none => rfl
      | some d' => rw [h] at hd; simp only [upd]; rw [if_neg (fun h => hd (by rw [h]))]
    have hal : ∀ d ∈ al, o.dst = some d → v = .pointer (some ⟨w.heap.size, 0, none⟩) ∧ w.heap.size < w'.heap.size := by
      intro d hd h
      unfold aOk at hao
      rw [h] at hao
      dsimp only at hao
      rw [show al.contains d = true by simpa using hd] at hao
      exact hao
    refine hK _ _ ⟨⟨k, upd u o.dst v, put_fill u o v (hc.dst i o ho), ?_, ?_, hk, fun m hm => getD_set_true (hk1 m hm), fun m hm hm' => ?_, fun d hd => (hk3 d hd).more, fun d hd hw => ?_, fun d hd d' hd' hdd hw hw' => ?_⟩, hcl, hcs, by simpa using hI.sz⟩
    · rintro d ⟨j, o', h1, h2, h3⟩
      by_cases hd : o.dst = some d
      · rw [hd] at hf ⊢
        have e : upd u (some d) v d = v := by simp [upd]
        rw [e]; exact hf
      · have hw : Written ops listed d := by
          by_cases hij : i = j
          · subst hij
            rw [ho] at h2
            injection h2 with h2
            subst h2
            exact absurd h3 hd
          · rw [getD_set_ne false hij] at h1
            exact ⟨j, o', h1, h2, h3⟩
        have e : upd u o.dst v d = u d := by
          cases h : o.dst with
          | none => rfl
          | some d' => rw [h] at hd; simp only [upd]; rw [if_neg (fun h => hd (by rw [h]))]
        rw [e]
        exact (look FL d).st _ _ _ (Keep.ofBelow hb) (hfac d hw)
    · have e : (js.getD k []).map (upd u o.dst v) = (js.getD k []).map u := by
        apply List.map_congr_left
        intro d hd
        cases h : o.dst with
        | none => rfl
        | some d' =>
          simp only [upd]
          rw [if_neg]
          rintro rfl
          obtain ⟨j, o', h1, h2, h3⟩ := hk3 d hd
          have := hc.once i j o o' d ho h2 h h3
          subst this
          rw [hun] at h1; cases h1
      rw [e]
      exact hst _ _ _ _ hb hJ
    · rw [getD_set_ne false (Ne.symm (hns m hm'))]; exact hk2 m hm hm'
    · by_cases h : o.dst = some d
      · obtain ⟨h1, h2⟩ := hal d hd h
        exact ⟨w.heap.size, by rw [h]; simp [upd, h1], h2⟩
      · rcases hwi d hw with h1 | h1
        · exact absurd h1 h
        · obtain ⟨g, h2, h3⟩ := hk4 d hd h1
          exact ⟨g, by rw [hne d h]; exact h2, Nat.lt_of_lt_of_le h3 hb.size⟩
    · by_cases h : o.dst = some d
      · have h' : o.dst ≠ some d' := fun h2 => hdd (by rw [h] at h2; injection h2)
        rcases hwi d' hw' with h1 | h1
        · exact absurd h1 h'
        · obtain ⟨g, h2, h3⟩ := hk4 d' hd' h1
          rw [hne d' h', h2, h]
          simp only [upd, if_pos]
          rw [(hal d hd h).1]
          intro he
          simp at he <;> omega
      · rcases hwi d hw with h1 | h1
        · exact absurd h1 h
        · by_cases h' : o.dst = some d'
          · obtain ⟨g, h2, h3⟩ := hk4 d hd h1
            rw [hne d h, h2, h']
            simp only [upd, if_pos]
            rw [(hal d' hd' h').1]
            intro he
            simp at he <;> omega
          · rcases hwi d' hw' with h2 | h2
            · exact absurd h2 h'
            · rw [hne d h, hne d' h']; exact hk5 d hd d' hd' hdd h1 h2
  | some m =>
    rw [hsi] at hstep
    obtain ⟨hm, hmi, -⟩ := List.idxOf?_eq_some_iff.1 hsi
    have hmi' : st.getD m 0 = i := by simp [hm]; exact hmi
    have hmk : m = k := by
      rcases Nat.lt_trichotomy m k with h1 | h1 | h1
      · have := hk1 m h1; rw [hmi', hun] at this; cases this
      · exact h1
      · exfalso
        have h2 := hc.schain m (by omega) hm
        rw [hmi'] at h2
        obtain ⟨oj, hoj, e, he, hb, hon⟩ := Region.waitsFor_spec h2
        have : oj = o := Option.some.inj (hoj.symm.trans ho)
        subst this
        have h3 := hall e he hb
        rw [hon, hk2 (m - 1) (by omega) (by omega)] at h3
        cases h3
    subst hmk
    have hdn : o.dst = none := hc.sdst m hm o (by rw [hmi']; exact ho)
    have hwal : ∀ d ∈ al, Written ops listed d := by
      intro d hd
      obtain ⟨j, o', h1, h2, h3⟩ := hc.alw d hd m hm
      rw [hmi'] at h3
      refine ⟨j, o', ?_, h1, h2⟩
      unfold waits2 at h3
      rw [Bool.or_eq_true] at h3
      rcases h3 with h3 | h3
      · obtain ⟨oj, hoj, e, he, hb, hon⟩ := Region.waitsFor_spec h3
        have : oj = o := Option.some.inj (hoj.symm.trans ho)
        subst this
        rw [← hon]; exact hall e he hb
      · obtain ⟨x, -, hx⟩ := List.any_eq_true.1 h3
        rw [Bool.and_eq_true] at hx
        obtain ⟨oj, hoj, e, he, hb, hon⟩ := Region.waitsFor_spec hx.1
        have : oj = o := Option.some.inj (hoj.symm.trans ho)
        subst this
        have h4 := hall e he hb
        rw [hon] at h4
        obtain ⟨oj2, hoj2, e2, he2, hb2, hon2⟩ := Region.waitsFor_spec hx.2
        rw [← hon2]
        exact hI.cs _ oj2 hoj2 h4 e2 he2 hb2
    refine wpOp_step ho (fun K' hK => hstep u w hJ (fun d hd d' hd' hdd => hk5 d hd d' hd' hdd (hwal d hd) (hwal d' hd')) (facts_mk fun d hd => hfac d (hneed d hd)) K' ?_)
    intro v w' hJ' hb
    refine hK _ _ ⟨⟨m + 1, u, by rw [hdn]; rfl, ?_, hJ', hm, fun j hj => ?_, fun j hj hj' => ?_, fun d hd => ?_, fun d hd hw => ?_, fun d hd d' hd' hdd hw hw' => hk5 d hd d' hd' hdd (hwal d hd) (hwal d' hd')⟩, hcl, hcs, by simpa using hI.sz⟩
    · rintro d ⟨j, o', h1, h2, h3⟩
      have hij : i ≠ j := by
        rintro rfl
        rw [ho] at h2
        injection h2 with h2
        subst h2
        rw [hdn] at h3; cases h3
      rw [getD_set_ne false hij] at h1
      exact (look FL d).st _ _ _ hb (hfac d ⟨j, o', h1, h2, h3⟩)
    · by_cases h1 : j = m
      · subst h1; rw [hmi']; simp [hil]
      · exact getD_set_true (hk1 j (by omega))
    · have h1 := hk2 j (by omega) hj'
      by_cases h2 : st.getD j 0 = i
      · exfalso
        have h3 : ∀ n, m ≤ n → n < st.length → i ≤ st.getD n 0 ∧ (m < n → i < st.getD n 0) := by
          intro n
          induction n with
          | zero => intro h4 h5; exact ⟨by have : m = 0 := by omega
                                           subst this; rw [hmi']; exact Nat.le_refl _, fun h => by omega⟩
          | succ n ih =>
            intro h4 h5
            by_cases h6 : m = n + 1
            · subst h6; exact ⟨by rw [hmi']; exact Nat.le_refl _, fun h => by omega⟩
            · have h7 := ih (by omega) (by omega)
              have h8 := hc.schain (n + 1) (by omega) h5
              obtain ⟨oj, hoj, e, he, hb', hon⟩ := Region.waitsFor_spec h8
              have h9 := hc.edge _ oj hoj e he hb'
              rw [hon, Nat.add_sub_cancel] at h9
              exact ⟨by omega, fun _ => by omega⟩
        have := (h3 j (by omega) hj').2 (by omega)
        omega
      · rw [getD_set_ne false (Ne.symm h2)]; exact h1
    · rcases hc.sjs m hm d hd with h1 | h1
      · rw [hmi'] at h1; exact (hneed d h1).more
      · exact (hk3 d h1).more
    · obtain ⟨g, h1, h2⟩ := hk4 d hd (hwal d hd)
      exact ⟨g, h1, Nat.lt_of_lt_of_le h2 hb.size⟩
theorem ready_nil_all (hc : Chk al ops pt ds st js lm) {listed : Array Bool} (hsz : listed.size = ops.size) (hr : Region.ready .any ops listed = []) : ∀ n i, i < n → i < ops.size → listed.getD i false = true := by
 intro n
 induction n with
 | zero => intro i h; omega
 | succ n ih =>
  intro i hin hi
  have hil : i < listed.size := by omega
  cases hv : listed.getD i false with
  | true => rfl
  | false =>
   exfalso
   have ho : ops[i]? = some ops[i] := by simp [hi]
   have : i ∈ Region.ready .any ops listed := by
    rw [mem_ready]
    refine ⟨by simp [hil] at hv ⊢; exact hv, _, ho, fun e he hb => ?_⟩
    have h1 := hc.edge i _ ho e he hb
    exact ih e.on (by omega) (by omega)
   rw [hr] at this
   cases this
theorem wpAny_inv (hc : Chk al ops pt ds st js lm) (hst : ∀ k l w w', Below w.heap.size w w' → J k l w → J k l w') (hs : StepsOk al P ops Q FL J js (fun u => fillL u ds t0) df pt st lm ops.toList 0)
  (hend : ∀ u w, J st.length ((js.getD st.length []).map u) w → Facts FL u w ds → Q .normal ⟨fillL u ds t0, df⟩ w) :
  ∀ (fuel : Nat) (listed : Array Bool) (a : Act) (w : World), ((List.range ops.size).filter fun j => !listed.getD j true).length ≤ fuel → Inv al ops FL J js t0 df ds pt st listed a w → wpAny P .any ops Q fuel listed a w := by
 have hfin : ∀ (listed : Array Bool) (a : Act) (w : World), Inv al ops FL J js t0 df ds pt st listed a w → Region.ready .any ops listed = [] → Q .normal a w := by
  intro listed a w hI hr
  obtain ⟨k, u, rfl, hfac, hJ, hk, hk1, hk2, hk3, hk4, hk5⟩ := hI.fr
  have hall := ready_nil_all hc hI.sz hr
  have hkl : k = st.length := by
   rcases Nat.lt_or_ge k st.length with h | h
   ·have h1 := hk2 k (Nat.le_refl _) h
    rw [hall (st.getD k 0 + 1) _ (by omega) (hc.slt k h)] at h1
    cases h1
   ·omega
  subst hkl
  refine hend u w hJ (facts_mk fun d hd => hfac d ?_)
  obtain ⟨i, o, h1, h2⟩ := hc.wr d hd
  exact ⟨i, o, hall (i + 1) i (by omega) (Array.getElem?_eq_some_iff.1 h1).1, h1, h2⟩
 intro fuel
 induction fuel with
 | zero =>
  intro listed a w hcnt hI
  have hr : Region.ready .any ops listed = [] := by
   rw [List.eq_nil_iff_forall_not_mem]
   intro j hj
   obtain ⟨h0, o, ho, -⟩ := mem_ready.1 hj
   have hlt : j < ops.size := (Array.getElem?_eq_some_iff.1 ho).1
   have hm : j ∈ (List.range ops.size).filter fun j => !listed.getD j true := by
    rw [List.mem_filter]
    exact ⟨List.mem_range.2 hlt, by rw [h0]; rfl⟩
   have := List.length_pos_of_mem hm
   omega
  exact ⟨hr, hfin _ _ _ hI hr⟩
 | succ fuel ih =>
  intro listed a w hcnt hI
  refine ⟨fun hr => hfin _ _ _ hI hr, fun i hi => ?_⟩
  obtain ⟨h0, o, ho, -⟩ := mem_ready.1 hi
  have hlt : i < ops.size := (Array.getElem?_eq_some_iff.1 ho).1
  refine wpOp_mono (fun a' w' hI' => ih _ a' w' ?_ hI') (inv_step hc hst hs hI hi)
  have := filter_less (p := fun j => !listed.getD j true) (q := fun j => !(listed.setIfInBounds i true).getD j true) (i := i) (by simp only [h0]; rfl) (by
   have hil : i < listed.size := by rw [hI.sz]; exact hlt
   simp [hil]) (fun j hj => by
   by_cases hij : i = j
   ·subst hij
    exfalso
    have hil : i < listed.size := by rw [hI.sz]; exact hlt
    simp [hil] at hj
   ·rw [getD_set_ne true hij] at hj; exact hj) (List.range ops.size) (List.mem_range.2 hlt)
  omega
theorem region_facts {id : Nat} {w : World} {opl : List Oper} (FL : List (Nat × Fact)) (J : Nat → List Value → World → Prop) (pt : List (List Nat)) (st : List Nat) (js : List (List Nat)) (lm : List Nat) (al : List Nat) {fr : (Nat → Value) → Array Value} (hfr : ∀ u, fillL u (temps FL) t0 = fr u)
  (hm : P.follows .mixedOrders = true) (hchk : chk al opl.toArray pt (temps FL) st js lm = true) (hst : ∀ k l w w', Below w.heap.size w w' → J k l w → J k l w') (hJ : J 0 [] w.drew)
  (hs : StepsOk al P opl.toArray Q FL J js fr df pt st lm opl 0)
  (hend : ∀ u w, J st.length ((js.getD st.length []).map u) w → Facts FL u w (temps FL) → Q .normal ⟨fr u, df⟩ w) : (Code.region id opl.toArray true).wp P Q ⟨t0, df⟩ w := by
 obtain rfl : (fun u => fillL u (temps FL) t0) = fr := funext hfr
 have hc := chk_spec hchk
 refine wp_region_any hm (wpAny_inv (t0 := t0) hc hst hs hend opl.toArray.size _ _ _ ?_ ⟨⟨0, fun d => t0.getD d undef, by rw [fillL_self], ?_, by rw [hc.js0]; exact hJ, Nat.zero_le _, fun m h => by omega, fun m _ _ => none_listed _ _, fun d hd => (by rw [hc.js0] at hd; cases hd), fun d _ hw => (by obtain ⟨j, o', h1, _, _⟩ := hw; rw [none_listed] at h1; cases h1), fun d _ d' _ _ hw => by obtain ⟨j, o', h1, _, _⟩ := hw; rw [none_listed] at h1; cases h1⟩, ?_, ?_, by simp⟩)
 ·exact Nat.le_trans (List.length_filter_le _ _) (by simp)
 ·rintro d ⟨j, o', h1, -, -⟩
  rw [none_listed] at h1; cases h1
 ·intro i hi
  rw [none_listed] at hi; cases hi
 ·intro j oj _ hl
  rw [none_listed] at hl; cases hl
end
end Go.Proofs.YteemgcbopafilaaDoor.AS
namespace Go.Proofs
open Go.Shelf
def Tryd.lays103_ren : Go.Shelf.Ren := ⟨fun | 103 => 14 | 210 => 21 | 206 => 35 | n => n, fun | 9 => 9 | 4 => 4 | 24 => 31 | 3 => 3 | n => n, fun | n => n⟩
theorem Tryd.lays103 : Go.Proofs.Lays.n103 Tryd.prog Tryd.lays103_ren := {
 mixed := by kernel_rfl
 f103 := Tryd.func14.trans (congrArg some (by kernel_rfl))
 f206 := Tryd.func35.trans (congrArg some (by kernel_rfl))
 f210 := Tryd.func21.trans (congrArg some (by kernel_rfl))
 t3 := Tryd.underlying3
 a3 := Tryd.isAgg3
 z3 := Tryd.sizeOf3
 v3 := Tryd.zeroValue3
 t4 := Tryd.underlying4
 a4 := Tryd.isAgg4
 z4 := Tryd.sizeOf4
 v4 := Tryd.zeroValue4
 t9 := Tryd.underlying9
 a9 := Tryd.isAgg9
 z9 := Tryd.sizeOf9
 v9 := Tryd.zeroValue9
 t24 := Tryd.underlying31
 a24 := Tryd.isAgg31
 z24 := Tryd.sizeOf31
 v24 := Tryd.zeroValue31 }
open Go.RowKit in
theorem Tryd.strings_CutPrefix (s p : ByteArray) (w : World) :
  Calls Tryd.prog 14 #[.string s, .string p] w fun e w' => e = .returned (.tuple #[.string ⟨(Lib.trimPrefix s.data.toList p.data.toList).toArray⟩, .bool (Lib.hasPrefix s.data.toList p.data.toList)]) ∧ w' = w := Any.strings_CutPrefix Tryd.lays103 s p w
def Tryd.laysM246_ren : Go.Shelf.Ren := ⟨fun | 246 => 36 | 283 => 42 | 284 => 43 | 285 => 44 | 286 => 45 | 129 => 49 | 317 => 48 | 318 => 50 | 319 => 51 | 320 => 52 | 337 => 53 | 338 => 54 | n => n, fun | 2 => 2 | 3 => 3 | 9 => 9 | 4 => 4 | 171 => 65 | 0 => 0 | 53 => 61 | 37 => 47 | 5 => 5 | 173 => 68 | 212 => 74 | 51 => 58 | 20 => 20 | 213 => 75 | 46 => 42 | 232 => 78 | 233 => 79 | n => n, fun | 17 => 0 | 18 => 2 | 19 => 3 | n => n⟩
def Tryd.laysM243_ren : Go.Shelf.Ren := ⟨fun | 243 => 22 | 246 => 36 | 283 => 42 | 284 => 43 | 285 => 44 | 286 => 45 | 129 => 49 | 317 => 48 | 318 => 50 | 319 => 51 | 320 => 52 | 337 => 53 | 338 => 54 | n => n, fun | 3 => 3 | 9 => 9 | 2 => 2 | 4 => 4 | 171 => 65 | 0 => 0 | 53 => 61 | 37 => 47 | 5 => 5 | 173 => 68 | 212 => 74 | 51 => 58 | 20 => 20 | 213 => 75 | 46 => 42 | 232 => 78 | 233 => 79 | n => n, fun | 17 => 0 | 18 => 2 | 19 => 3 | n => n⟩
def Tryd.laysM171_ren : Go.Shelf.Ren := ⟨fun | 171 => 15 | 243 => 22 | 246 => 36 | 283 => 42 | 284 => 43 | 285 => 44 | 286 => 45 | 129 => 49 | 317 => 48 | 318 => 50 | 319 => 51 | 320 => 52 | 337 => 53 | 338 => 54 | n => n, fun | 3 => 3 | 9 => 9 | 2 => 2 | 4 => 4 | 171 => 65 | 0 => 0 | 53 => 61 | 37 => 47 | 5 => 5 | 173 => 68 | 212 => 74 | 51 => 58 | 20 => 20 | 213 => 75 | 46 => 42 | 232 => 78 | 233 => 79 | n => n, fun | 17 => 0 | 18 => 2 | 19 => 3 | n => n⟩
theorem Tryd.laysM171 : Go.Proofs.LaysM.n171 Tryd.prog Tryd.laysM171_ren := {
 mixed := by kernel_rfl
 f129 := Tryd.func49.trans (congrArg some (by kernel_rfl))
 f171 := Tryd.func15.trans (congrArg some (by kernel_rfl))
 f243 := Tryd.func22.trans (congrArg some (by kernel_rfl))
 f246 := Tryd.func36.trans (congrArg some (by kernel_rfl))
 f283 := Tryd.func42.trans (congrArg some (by kernel_rfl))
 f284 := Tryd.func43.trans (congrArg some (by kernel_rfl))
 f285 := Tryd.func44.trans (congrArg some (by kernel_rfl))
 f286 := Tryd.func45.trans (congrArg some (by kernel_rfl))
 f317 := Tryd.func48.trans (congrArg some (by kernel_rfl))
 f318 := Tryd.func50.trans (congrArg some (by kernel_rfl))
 f319 := Tryd.func51.trans (congrArg some (by kernel_rfl))
 f320 := Tryd.func52.trans (congrArg some (by kernel_rfl))
 f337 := Tryd.func53.trans (congrArg some (by kernel_rfl))
 f338 := Tryd.func54.trans (congrArg some (by kernel_rfl))
 t0 := Tryd.underlying0
 a0 := Tryd.isAgg0
 z0 := Tryd.sizeOf0
 v0 := Tryd.zeroValue0
 t2 := Tryd.underlying2
 a2 := Tryd.isAgg2
 z2 := Tryd.sizeOf2
 v2 := Tryd.zeroValue2
 t3 := Tryd.underlying3
 a3 := Tryd.isAgg3
 z3 := Tryd.sizeOf3
 v3 := Tryd.zeroValue3
 t4 := Tryd.underlying4
 a4 := Tryd.isAgg4
 z4 := Tryd.sizeOf4
 v4 := Tryd.zeroValue4
 t5 := Tryd.underlying5
 a5 := Tryd.isAgg5
 z5 := Tryd.sizeOf5
 v5 := Tryd.zeroValue5
 t9 := Tryd.underlying9
 a9 := Tryd.isAgg9
 z9 := Tryd.sizeOf9
 v9 := Tryd.zeroValue9
 t20 := Tryd.underlying20
 a20 := Tryd.isAgg20
 z20 := Tryd.sizeOf20
 v20 := Tryd.zeroValue20
 t37 := Tryd.underlying47
 a37 := Tryd.isAgg47
 z37 := Tryd.sizeOf47
 v37 := Tryd.zeroValue47
 t46 := Tryd.underlying42
 a46 := Tryd.isAgg42
 z46 := Tryd.sizeOf42
 v46 := Tryd.zeroValue42
 t51 := Tryd.underlying58
 a51 := Tryd.isAgg58
 z51 := Tryd.sizeOf58
 v51 := Tryd.zeroValue58
 t53 := Tryd.underlying61
 a53 := Tryd.isAgg61
 z53 := Tryd.sizeOf61
 v53 := Tryd.zeroValue61
 t171 := Tryd.underlying65
 a171 := Tryd.isAgg65
 z171 := Tryd.sizeOf65
 v171 := Tryd.zeroValue65
 t173 := Tryd.underlying68
 a173 := Tryd.isAgg68
 z173 := Tryd.sizeOf68
 v173 := Tryd.zeroValue68
 t212 := Tryd.underlying74
 a212 := Tryd.isAgg74
 z212 := Tryd.sizeOf74
 v212 := Tryd.zeroValue74
 t213 := Tryd.underlying75
 a213 := Tryd.isAgg75
 z213 := Tryd.sizeOf75
 t232 := Tryd.underlying78
 a232 := Tryd.isAgg78
 z232 := Tryd.sizeOf78
 v232 := Tryd.zeroValue78
 t233 := Tryd.underlying79
 a233 := Tryd.isAgg79
 z233 := Tryd.sizeOf79
 v233 := Tryd.zeroValue79
 g17 := by kernel_rfl
 g18 := by kernel_rfl
 g19 := by kernel_rfl
 i0 := by kernel_rfl
 i2 := by kernel_rfl
 i3 := by kernel_rfl
 i4 := by kernel_rfl
 i5 := by kernel_rfl
 i9 := by kernel_rfl
 i20 := by kernel_rfl
 i37 := by kernel_rfl
 i46 := by kernel_rfl
 i51 := by kernel_rfl
 i53 := by kernel_rfl
 i171 := by kernel_rfl
 i173 := by kernel_rfl
 i212 := by kernel_rfl
 i232 := by kernel_rfl
 i233 := by kernel_rfl
 m17 := by kernel_rfl
 m18 := by kernel_rfl
 m19 := by kernel_rfl }
open Go.RowKit Go.Sort Go.Lib in
theorem Tryd.strconv_Itoa (n : Int) (h0 : -9223372036854775808 ≤ n) (h1 : n ≤ 9223372036854775807) (w : World) (htab : Lib.TabIs Tryd.prog w "internal/strconv.uint64pow10" .u64 Lib.pow10Tab) :
  Calls Tryd.prog 15 #[.int .i64 n] w fun e w' => e = .returned (.string ⟨(Lib.itoa n).toArray⟩) ∧ ∃ k os, w' = grow (w.drewN k) os := Any.strconv_Itoa Tryd.laysM171 n h0 h1 w htab
def Tryd.lays105_ren : Go.Shelf.Ren := ⟨fun | 105 => 16 | 212 => 23 | 99 => 24 | 165 => 25 | 166 => 26 | 170 => 27 | 169 => 28 | 263 => 37 | 264 => 38 | 206 => 35 | 240 => 39 | 241 => 40 | 276 => 46 | 277 => 47 | n => n, fun | 9 => 9 | 3 => 3 | 4 => 4 | 20 => 20 | 0 => 0 | 46 => 42 | 109 => 43 | 5 => 5 | 72 => 49 | 76 => 53 | 51 => 58 | 146 => 59 | 53 => 61 | 148 => 62 | 70 => 46 | 37 => 47 | 75 => 52 | 127 => 64 | 164 => 70 | 80 => 56 | n => n, fun | n => n⟩
theorem Tryd.lays105 : Go.Proofs.Lays.n105 Tryd.prog Tryd.lays105_ren := {
 mixed := by kernel_rfl
 f99 := Tryd.func24.trans (congrArg some (by kernel_rfl))
 f105 := Tryd.func16.trans (congrArg some (by kernel_rfl))
 f165 := Tryd.func25.trans (congrArg some (by kernel_rfl))
 f166 := Tryd.func26.trans (congrArg some (by kernel_rfl))
 f169 := Tryd.func28.trans (congrArg some (by kernel_rfl))
 f170 := Tryd.func27.trans (congrArg some (by kernel_rfl))
 f206 := Tryd.func35.trans (congrArg some (by kernel_rfl))
 f212 := Tryd.func23.trans (congrArg some (by kernel_rfl))
 f240 := Tryd.func39.trans (congrArg some (by kernel_rfl))
 f241 := Tryd.func40.trans (congrArg some (by kernel_rfl))
 f263 := Tryd.func37.trans (congrArg some (by kernel_rfl))
 f264 := Tryd.func38.trans (congrArg some (by kernel_rfl))
 f276 := Tryd.func46.trans (congrArg some (by kernel_rfl))
 f277 := Tryd.func47.trans (congrArg some (by kernel_rfl))
 t0 := Tryd.underlying0
 a0 := Tryd.isAgg0
 z0 := Tryd.sizeOf0
 v0 := Tryd.zeroValue0
 t3 := Tryd.underlying3
 a3 := Tryd.isAgg3
 z3 := Tryd.sizeOf3
 v3 := Tryd.zeroValue3
 t4 := Tryd.underlying4
 a4 := Tryd.isAgg4
 z4 := Tryd.sizeOf4
 v4 := Tryd.zeroValue4
 t5 := Tryd.underlying5
 a5 := Tryd.isAgg5
 z5 := Tryd.sizeOf5
 v5 := Tryd.zeroValue5
 t9 := Tryd.underlying9
 a9 := Tryd.isAgg9
 z9 := Tryd.sizeOf9
 v9 := Tryd.zeroValue9
 t20 := Tryd.underlying20
 a20 := Tryd.isAgg20
 z20 := Tryd.sizeOf20
 v20 := Tryd.zeroValue20
 t37 := Tryd.underlying47
 a37 := Tryd.isAgg47
 z37 := Tryd.sizeOf47
 v37 := Tryd.zeroValue47
 t46 := Tryd.underlying42
 a46 := Tryd.isAgg42
 z46 := Tryd.sizeOf42
 v46 := Tryd.zeroValue42
 t51 := Tryd.underlying58
 a51 := Tryd.isAgg58
 z51 := Tryd.sizeOf58
 v51 := Tryd.zeroValue58
 t53 := Tryd.underlying61
 a53 := Tryd.isAgg61
 z53 := Tryd.sizeOf61
 v53 := Tryd.zeroValue61
 t70 := Tryd.underlying46
 a70 := Tryd.isAgg46
 z70 := Tryd.sizeOf46
 v70 := Tryd.zeroValue46
 t72 := Tryd.underlying49
 a72 := Tryd.isAgg49
 z72 := Tryd.sizeOf49
 v72 := Tryd.zeroValue49
 t75 := Tryd.underlying52
 a75 := Tryd.isAgg52
 z75 := Tryd.sizeOf52
 v75 := Tryd.zeroValue52
 t76 := Tryd.underlying53
 a76 := Tryd.isAgg53
 z76 := Tryd.sizeOf53
 v76 := Tryd.zeroValue53
 t109 := Tryd.underlying43
 a109 := Tryd.isAgg43
 z109 := Tryd.sizeOf43
 v109 := Tryd.zeroValue43
 t127 := Tryd.underlying64
 a127 := Tryd.isAgg64
 z127 := Tryd.sizeOf64
 v127 := Tryd.zeroValue64
 t146 := Tryd.underlying59
 a146 := Tryd.isAgg59
 z146 := Tryd.sizeOf59
 v146 := Tryd.zeroValue59
 t148 := Tryd.underlying62
 a148 := Tryd.isAgg62
 z148 := Tryd.sizeOf62
 v148 := Tryd.zeroValue62
 t164 := Tryd.underlying70
 a164 := Tryd.isAgg70
 z164 := Tryd.sizeOf70
 v164 := Tryd.zeroValue70 }
theorem Tryd.Builder_Extra_105 : Builder.Extra Tryd.prog Tryd.lays105_ren := {
 sizeBuilder := by kernel_rfl
 liesBuilder := by kernel_rfl
 t5 := Tryd.underlying5
 a5 := Tryd.isAgg5
 z5 := Tryd.sizeOf5
 v5 := Tryd.zeroValue5
 infoByte := by kernel_rfl
 cellsByte := by kernel_rfl
 sizeByte := by kernel_rfl
 neB5 := by decide }
open Go.RowKit Go.Lib in
theorem Tryd.strings_Repeat (s : ByteArray) (c : Nat) (w : World) (hc : c ≤ 9223372036854775807) (hlen : s.size * c ≤ 140737488355328) :
  Calls Tryd.prog 16 #[.string s, .int .i64 c] w fun e w' => e = .returned (.string ⟨(Lib.repeatL s.data.toList c).toArray⟩) ∧ Below w.heap.size w w' := Any.strings_Repeat Tryd.lays105 Tryd.Builder_Extra_105 s c w hc hlen
end Go.Proofs
namespace Go.Proofs.YteemgcbopafilaaDoor
open Go.RowKit
theorem dc_drew {B : Nat} {a w : World} (h : Below B a w) : Below B a w.drew := ⟨h.os, h.tape, h.output, h.size, h.block⟩
theorem below_more {W w w' : World} (h : Below W.heap.size W w) (hb : Below w.heap.size w w') : Below W.heap.size W w' := h.trans (hb.mono h.size)
theorem dret_int {k : IntKind} {a b : Int} (h : a = b) : Ending.returned (.int k a) = .returned (.int k b) := by rw [h]
theorem dret_bool {a b : Bool} (h : a = b) : Ending.returned (.bool a) = .returned (.bool b) := by rw [h]
abbrev DTab (B : Nat) (w : World) : Prop := Lib.TabBelow Tryd.prog B w "internal/strconv.uint64pow10" .u64 Lib.pow10Tab
theorem DTab.up {w w' : World} (h : DTab w.heap.size w) (hb : Below w.heap.size w w') : DTab w'.heap.size w' := fun w2 h2 => h w2 (hb.trans (h2.mono hb.size))
theorem itoa_any (n : Int) (h0 : -9223372036854775808 ≤ n) (h1 : n ≤ 9223372036854775807) (w : World) (ht : DTab w.heap.size w) :
  Calls Tryd.prog 15 #[.int .i64 n] w fun e w' => e = .returned (.string ⟨(Lib.itoa n).toArray⟩) ∧ Below w.heap.size w w' := by
 refine (Tryd.strconv_Itoa n h0 h1 w ht.here).mono ?_
 rintro e w' ⟨he, k, os, rfl⟩
 exact ⟨he, Lib.below_grow _ _ (Nat.le_refl _) _ _⟩
theorem bytes_eq {a b : ByteArray} (h : a.data.toList = b.data.toList) : a = b := by
 cases a; cases b; congr; exact Array.toList_inj.1 h
theorem dret_str {a b : ByteArray} (h : a = b) : Ending.returned (.string a) = .returned (.string b) := by rw [h]
def sgn (neg : Bool) (a : Int) : Int := if neg then -a else a
def upN (x r : Int) : Int := if r = 0 then x else x + 1
def rqN (m : Int) (neg : Bool) (x r d : Int) : Int :=
 if m = 0 then (if 2 * r < d then x else upN x r)
 else if m = 1 then (if 2 * r = d ∧ x % 2 = 0 then x else if 2 * r < d then x else upN x r)
 else if m = 2 then x
 else if m = 3 then upN x r
 else if m = 4 then (if neg then upN x r else x)
 else (if neg then x else upN x r)
def negB (a b : Int) : Bool := !(decide (a < 0) == decide (b < 0))
def rnd (m a b : Int) : Int := sgn (negB a b) (rqN m (negB a b) ((a.natAbs : Int) / (b.natAbs : Int)) ((a.natAbs : Int) % (b.natAbs : Int)) (b.natAbs : Int))
theorem abs_div {a b : Int} : 0 ≤ (a.natAbs : Int) / (b.natAbs : Int) ∧ (a.natAbs : Int) / (b.natAbs : Int) ≤ (a.natAbs : Int) := by
 refine ⟨Int.ediv_nonneg (by omega) (by omega), Int.ediv_le_self _ (by omega)⟩
def DNo (W : World) : Nat → List Value → World → Prop := fun _ _ w => Below W.heap.size W w
theorem DNo.st (W : World) : ∀ k l w w', Below w.heap.size w w' → DNo W k l w → DNo W k l w' := fun _ _ _ _ hb h => below_more h hb
theorem qsigned_any (neg : Bool) (x r d a : Int) (w : World) (h0 : 0 ≤ a) (h1 : a ≤ 2000000000000000000) :
  Calls Tryd.prog 41 #[.agg #[.bool neg, .int .i64 x, .int .i64 r, .int .i64 d], .int .i64 a] w fun e w' => e = .returned (.int .i64 (sgn neg a)) ∧ Below w.heap.size w w' := by
 cases neg
 ·go_enter Tryd.func41, Tryd.ntmps41
  go_wp2
  go_ret
  exact ⟨rfl, (Below.refl _ _).alloc (Nat.le_refl _) _⟩
 ·go_enter Tryd.func41, Tryd.ntmps41
  go_wp2
  go_ret
  exact ⟨rfl, (Below.refl _ _).alloc (Nat.le_refl _) _⟩
theorem qdown_any (neg : Bool) (x r d : Int) (w : World) (h0 : 0 ≤ x) (h1 : x ≤ 1000000000000000000) :
  Calls Tryd.prog 31 #[.agg #[.bool neg, .int .i64 x, .int .i64 r, .int .i64 d]] w fun e w' => e = .returned (.int .i64 (sgn neg x)) ∧ Below w.heap.size w w' := by
 go_enter Tryd.func31, Tryd.ntmps31
 go_wp2_with (go_at_call 41; refine (qsigned_any _ _ _ _ _ _ (by omega) (by omega)).mono ?_; rintro e w' ⟨rfl, hb⟩)
 go_ret
 exact ⟨rfl, ((Below.refl _ _).alloc (Nat.le_refl _) _).trans (hb.mono (by simp))⟩
theorem qup_any (neg : Bool) (x r d : Int) (w : World) (h0 : 0 ≤ x) (h1 : x ≤ 1000000000000000000) :
  Calls Tryd.prog 32 #[.agg #[.bool neg, .int .i64 x, .int .i64 r, .int .i64 d]] w fun e w' => e = .returned (.int .i64 (sgn neg (upN x r))) ∧ Below w.heap.size w w' := by
 unfold upN
 by_cases hr : r = 0
 ·subst hr
  rw [if_pos rfl]
  go_enter Tryd.func32, Tryd.ntmps32
  go_wp2_with (go_at_call 41; refine (qsigned_any _ _ _ _ _ _ (by omega) (by omega)).mono ?_; rintro e w' ⟨rfl, hb⟩)
  go_ret
  exact ⟨rfl, ((Below.refl _ _).alloc (Nat.le_refl _) _).trans (hb.mono (by simp))⟩
 ·rw [if_neg hr]
  have h2 : (r == 0) = false := by simpa using hr
  clear hr
  go_enter Tryd.func32, Tryd.ntmps32
  go_wp2_with (go_at_call 41; refine (qsigned_any _ _ _ _ _ _ (by omega) (by omega)).mono ?_; rintro e w' ⟨rfl, hb⟩)
  go_ret
  exact ⟨rfl, ((Below.refl _ _).alloc (Nat.le_refl _) _).trans (hb.mono (by simp))⟩
theorem qfloor_any (neg : Bool) (x r d : Int) (w : World) (h0 : 0 ≤ x) (h1 : x ≤ 1000000000000000000) :
  Calls Tryd.prog 33 #[.agg #[.bool neg, .int .i64 x, .int .i64 r, .int .i64 d]] w fun e w' => e = .returned (.int .i64 (sgn neg (if neg then upN x r else x))) ∧ Below w.heap.size w w' := by
 cases neg
 ·rw [if_neg (by decide)]
  go_enter Tryd.func33, Tryd.ntmps33
  go_wp2_with (go_at_call 31; refine (qdown_any _ _ _ _ _ (by omega) (by omega)).mono ?_; rintro e w' ⟨rfl, hb⟩)
  go_ret
  exact ⟨rfl, ((Below.refl _ _).alloc (Nat.le_refl _) _).trans (hb.mono (by simp))⟩
 ·rw [if_pos rfl]
  go_enter Tryd.func33, Tryd.ntmps33
  go_wp2_with (go_at_call 32; refine (qup_any _ _ _ _ _ (by omega) (by omega)).mono ?_; rintro e w' ⟨rfl, hb⟩)
  go_ret
  exact ⟨rfl, ((Below.refl _ _).alloc (Nat.le_refl _) _).trans (hb.mono (by simp))⟩
theorem qceil_any (neg : Bool) (x r d : Int) (w : World) (h0 : 0 ≤ x) (h1 : x ≤ 1000000000000000000) :
  Calls Tryd.prog 34 #[.agg #[.bool neg, .int .i64 x, .int .i64 r, .int .i64 d]] w fun e w' => e = .returned (.int .i64 (sgn neg (if neg then x else upN x r))) ∧ Below w.heap.size w w' := by
 cases neg
 ·rw [if_neg (by decide)]
  go_enter Tryd.func34, Tryd.ntmps34
  go_wp2_with (go_at_call 32; refine (qup_any _ _ _ _ _ (by omega) (by omega)).mono ?_; rintro e w' ⟨rfl, hb⟩)
  go_ret
  exact ⟨rfl, ((Below.refl _ _).alloc (Nat.le_refl _) _).trans (hb.mono (by simp))⟩
 ·rw [if_pos rfl]
  go_enter Tryd.func34, Tryd.ntmps34
  go_wp2_with (go_at_call 31; refine (qdown_any _ _ _ _ _ (by omega) (by omega)).mono ?_; rintro e w' ⟨rfl, hb⟩)
  go_ret
  exact ⟨rfl, ((Below.refl _ _).alloc (Nat.le_refl _) _).trans (hb.mono (by simp))⟩
theorem qaway_any (neg : Bool) (x r d : Int) (w : World) (h0 : 0 ≤ x) (h1 : x ≤ 1000000000000000000) (h2 : 0 ≤ r) (h3 : r ≤ 1000000000000000000) :
  Calls Tryd.prog 29 #[.agg #[.bool neg, .int .i64 x, .int .i64 r, .int .i64 d]] w fun e w' => e = .returned (.int .i64 (sgn neg (if 2 * r < d then x else upN x r))) ∧ Below w.heap.size w w' := by
 by_cases hr : 2 * r < d
 ·rw [if_pos hr]
  go_enter Tryd.func29, Tryd.ntmps29
  go_wp2_with (go_at_call 31; refine (qdown_any _ _ _ _ _ (by omega) (by omega)).mono ?_; rintro e w' ⟨rfl, hb⟩)
  go_ret
  exact ⟨rfl, ((Below.refl _ _).alloc (Nat.le_refl _) _).trans (hb.mono (by simp))⟩
 ·rw [if_neg hr]
  go_enter Tryd.func29, Tryd.ntmps29
  go_wp2_with (go_at_call 32; refine (qup_any _ _ _ _ _ (by omega) (by omega)).mono ?_; rintro e w' ⟨rfl, hb⟩)
  go_ret
  exact ⟨rfl, ((Below.refl _ _).alloc (Nat.le_refl _) _).trans (hb.mono (by simp))⟩
theorem qeven_any (neg : Bool) (x r d : Int) (w : World) (h0 : 0 ≤ x) (h1 : x ≤ 1000000000000000000) (h2 : 0 ≤ r) (h3 : r ≤ 1000000000000000000) :
  Calls Tryd.prog 30 #[.agg #[.bool neg, .int .i64 x, .int .i64 r, .int .i64 d]] w fun e w' => e = .returned (.int .i64 (sgn neg (if 2 * r = d ∧ x % 2 = 0 then x else if 2 * r < d then x else upN x r))) ∧ Below w.heap.size w w' := by
 by_cases hd : 2 * r = d
 ·subst hd
  by_cases hx : x % 2 = 0
  ·rw [if_pos ⟨rfl, hx⟩]
   have hx1 : (x % 2 == 0) = true := by simpa using hx
   clear hx
   go_enter Tryd.func30, Tryd.ntmps30
   go_wp2_with (go_at_call 31; refine (qdown_any _ _ _ _ _ (by omega) (by omega)).mono ?_; rintro e w' ⟨rfl, hb⟩)
   go_ret
   exact ⟨rfl, ((Below.refl _ _).alloc (Nat.le_refl _) _).trans (hb.mono (by simp))⟩
  ·rw [if_neg (fun h => hx h.2)]
   have hx1 : (x % 2 == 0) = false := by simpa using hx
   clear hx
   go_enter Tryd.func30, Tryd.ntmps30
   go_wp2_with (go_at_call 29; refine (qaway_any _ _ _ _ _ (by omega) (by omega) (by omega) (by omega)).mono ?_; rintro e w' ⟨rfl, hb⟩)
   go_ret
   exact ⟨rfl, ((Below.refl _ _).alloc (Nat.le_refl _) _).trans (hb.mono (by simp))⟩
 ·rw [if_neg (fun h => hd h.1)]
  have hx1 : (2 * r == d) = false := by simpa using hd
  clear hd
  go_enter Tryd.func30, Tryd.ntmps30
  go_wp2_with (go_at_call 29; refine (qaway_any _ _ _ _ _ (by omega) (by omega) (by omega) (by omega)).mono ?_; rintro e w' ⟨rfl, hb⟩)
  all_goals
   go_ret
   exact ⟨rfl, ((Below.refl _ _).alloc (Nat.le_refl _) _).trans (hb.mono (by simp))⟩
open AS (Keep NoInt)
set_option maxHeartbeats 1600000 in
theorem qdiv_nn (a b : Int) (w : World) (h1 : 0 < a) (h2 : a ≤ 1000000000000000000) (h3 : 0 < b) (h4 : b ≤ 1000000000000000000) :
  Calls Tryd.prog 18 #[.int .i64 (-a), .int .i64 (-b)] w fun e w' => e = .returned (.agg #[.bool (negB (-a) (-b)), .int .i64 (((-a).natAbs : Int) / ((-b).natAbs : Int)), .int .i64 (((-a).natAbs : Int) % ((-b).natAbs : Int)), .int .i64 ((-b).natAbs : Int)]) ∧ Below w.heap.size w w' := by
 have e1 : ((-a).natAbs : Int) = a := by omega
 have e2 : ((-b).natAbs : Int) = b := by omega
 have e3 : negB (-a) (-b) = false := by unfold negB; rw [decide_eq_true (show -a < 0 by omega), decide_eq_true (show -b < 0 by omega)]; rfl
 have hz : (b == 0) = false := by simp; omega
 have h0 : 0 ≤ a := by omega
 have m1 : max a (-a) = a := by omega
 have m2 : max (-a) a = a := by omega
 have m3 : max b (-b) = b := by omega
 have m4 : max (-b) b = b := by omega
 rw [e1, e2, e3]
 clear e1 e2 e3
 go_enter Tryd.func18, Tryd.ntmps18
 go_wp2
 go_region
 all_goals
  go_wp2
  exact bodyPost_ret (v := .agg #[.bool false, .int .i64 (a / b), .int .i64 (a % b), .int .i64 b]) (by simp [results, Tryd.results18, go_sem] <;> omega) rfl ⟨rfl, dc_drew ((Below.refl _ _).alloc (Nat.le_refl _) _)⟩
set_option maxHeartbeats 1600000 in
theorem qdiv_np (a b : Int) (w : World) (h1 : 0 < a) (h2 : a ≤ 1000000000000000000) (h3 : 0 < b) (h4 : b ≤ 1000000000000000000) :
  Calls Tryd.prog 18 #[.int .i64 (-a), .int .i64 b] w fun e w' => e = .returned (.agg #[.bool (negB (-a) b), .int .i64 (((-a).natAbs : Int) / (b.natAbs : Int)), .int .i64 (((-a).natAbs : Int) % (b.natAbs : Int)), .int .i64 (b.natAbs : Int)]) ∧ Below w.heap.size w w' := by
 have e1 : ((-a).natAbs : Int) = a := by omega
 have e2 : (b.natAbs : Int) = b := by omega
 have e3 : negB (-a) b = true := by unfold negB; rw [decide_eq_true (show -a < 0 by omega), decide_eq_false (show ¬ b < 0 by omega)]; rfl
 have hz : (b == 0) = false := by simp; omega
 have h0 : 0 ≤ a := by omega
 have m1 : max a (-a) = a := by omega
 have m2 : max (-a) a = a := by omega
 have m3 : max b (-b) = b := by omega
 have m4 : max (-b) b = b := by omega
 rw [e1, e2, e3]
 clear e1 e2 e3
 go_enter Tryd.func18, Tryd.ntmps18
 go_wp2
 go_region
 all_goals
  go_wp2
  exact bodyPost_ret (v := .agg #[.bool true, .int .i64 (a / b), .int .i64 (a % b), .int .i64 b]) (by simp [results, Tryd.results18, go_sem] <;> omega) rfl ⟨rfl, dc_drew ((Below.refl _ _).alloc (Nat.le_refl _) _)⟩
set_option maxHeartbeats 1600000 in
theorem qdiv_pn (a b : Int) (w : World) (h1 : 0 ≤ a) (h2 : a ≤ 1000000000000000000) (h3 : 0 < b) (h4 : b ≤ 1000000000000000000) :
  Calls Tryd.prog 18 #[.int .i64 a, .int .i64 (-b)] w fun e w' => e = .returned (.agg #[.bool (negB a (-b)), .int .i64 ((a.natAbs : Int) / ((-b).natAbs : Int)), .int .i64 ((a.natAbs : Int) % ((-b).natAbs : Int)), .int .i64 ((-b).natAbs : Int)]) ∧ Below w.heap.size w w' := by
 have e1 : (a.natAbs : Int) = a := by omega
 have e2 : ((-b).natAbs : Int) = b := by omega
 have e3 : negB a (-b) = true := by unfold negB; rw [decide_eq_false (show ¬ a < 0 by omega), decide_eq_true (show -b < 0 by omega)]; rfl
 have hz : (b == 0) = false := by simp; omega
 have h0 : 0 ≤ a := by omega
 have m1 : max a (-a) = a := by omega
 have m2 : max (-a) a = a := by omega
 have m3 : max b (-b) = b := by omega
 have m4 : max (-b) b = b := by omega
 rw [e1, e2, e3]
 clear e1 e2 e3
 go_enter Tryd.func18, Tryd.ntmps18
 go_wp2
 go_region
 all_goals
  go_wp2
  exact bodyPost_ret (v := .agg #[.bool true, .int .i64 (a / b), .int .i64 (a % b), .int .i64 b]) (by simp [results, Tryd.results18, go_sem] <;> omega) rfl ⟨rfl, dc_drew ((Below.refl _ _).alloc (Nat.le_refl _) _)⟩
set_option maxHeartbeats 1600000 in
theorem qdiv_pp (a b : Int) (w : World) (h1 : 0 ≤ a) (h2 : a ≤ 1000000000000000000) (h3 : 0 < b) (h4 : b ≤ 1000000000000000000) :
  Calls Tryd.prog 18 #[.int .i64 a, .int .i64 b] w fun e w' => e = .returned (.agg #[.bool (negB a b), .int .i64 ((a.natAbs : Int) / (b.natAbs : Int)), .int .i64 ((a.natAbs : Int) % (b.natAbs : Int)), .int .i64 (b.natAbs : Int)]) ∧ Below w.heap.size w w' := by
 have e1 : (a.natAbs : Int) = a := by omega
 have e2 : (b.natAbs : Int) = b := by omega
 have e3 : negB a b = false := by unfold negB; rw [decide_eq_false (show ¬ a < 0 by omega), decide_eq_false (show ¬ b < 0 by omega)]; rfl
 have hz : (b == 0) = false := by simp; omega
 have h0 : 0 ≤ a := by omega
 have m1 : max a (-a) = a := by omega
 have m2 : max (-a) a = a := by omega
 have m3 : max b (-b) = b := by omega
 have m4 : max (-b) b = b := by omega
 rw [e1, e2, e3]
 clear e1 e2 e3
 go_enter Tryd.func18, Tryd.ntmps18
 go_wp2
 go_region
 all_goals
  go_wp2
  exact bodyPost_ret (v := .agg #[.bool false, .int .i64 (a / b), .int .i64 (a % b), .int .i64 b]) (by simp [results, Tryd.results18, go_sem] <;> omega) rfl ⟨rfl, dc_drew ((Below.refl _ _).alloc (Nat.le_refl _) _)⟩
theorem qdivide_any (a b : Int) (w : World) (h1 : -1000000000000000000 ≤ a) (h2 : a ≤ 1000000000000000000) (h3 : -1000000000000000000 ≤ b) (h4 : b ≤ 1000000000000000000) (h0 : b ≠ 0) :
  Calls Tryd.prog 18 #[.int .i64 a, .int .i64 b] w fun e w' => e = .returned (.agg #[.bool (negB a b), .int .i64 ((a.natAbs : Int) / (b.natAbs : Int)), .int .i64 ((a.natAbs : Int) % (b.natAbs : Int)), .int .i64 (b.natAbs : Int)]) ∧ Below w.heap.size w w' := by
 by_cases ha : a < 0
 ·obtain ⟨A, rfl⟩ : ∃ A, a = -A := ⟨-a, by omega⟩
  by_cases hb : b < 0
  ·obtain ⟨B, rfl⟩ : ∃ B, b = -B := ⟨-b, by omega⟩
   exact qdiv_nn A B w (by omega) (by omega) (by omega) (by omega)
  ·exact qdiv_np A b w (by omega) (by omega) (by omega) (by omega)
 ·by_cases hb : b < 0
  ·obtain ⟨B, rfl⟩ : ∃ B, b = -B := ⟨-b, by omega⟩
   exact qdiv_pn a B w (by omega) (by omega) (by omega) (by omega)
  ·exact qdiv_pp a b w (by omega) (by omega) (by omega) (by omega)
theorem modes_any (w : World) : Calls Tryd.prog 17 #[] w fun e w' => e = .returned (.agg #[.func (Fn.func 29) #[] #[], .func (Fn.func 30) #[] #[], .func (Fn.func 31) #[] #[], .func (Fn.func 32) #[] #[], .func (Fn.func 33) #[] #[], .func (Fn.func 34) #[] #[]]) ∧ Below w.heap.size w w' := by
 go_enter Tryd.func17, Tryd.ntmps17
 go_wp2
 exact bodyPost_ret (v := .agg #[.func (Fn.func 29) #[] #[], .func (Fn.func 30) #[] #[], .func (Fn.func 31) #[] #[], .func (Fn.func 32) #[] #[], .func (Fn.func 33) #[] #[], .func (Fn.func 34) #[] #[]]) (by simp [results, Tryd.results17, go_sem]) rfl ⟨rfl, (Below.refl _ _).alloc (Nat.le_refl _) _⟩
def rdFL (m a b : Int) (neg : Bool) (x r d z : Int) (k : Nat) : List (Nat × AS.Fact) := [(7, AS.Fact.is (.agg #[.func (Fn.func 29) #[] #[], .func (Fn.func 30) #[] #[], .func (Fn.func 31) #[] #[], .func (Fn.func 32) #[] #[], .func (Fn.func 33) #[] #[], .func (Fn.func 34) #[] #[]])), (8, AS.Fact.is (.int .i64 m)), (9, AS.Fact.is (.func (Fn.func k) #[] #[])), (10, AS.Fact.is (.int .i64 a)), (11, AS.Fact.is (.int .i64 b)), (12, AS.Fact.is (.agg #[.bool neg, .int .i64 x, .int .i64 r, .int .i64 d])), (13, AS.Fact.is (.int .i64 z)), (6, AS.Fact.is (.int .i64 z))]
set_option maxRecDepth 20000 in
set_option maxHeartbeats 1600000 in
theorem rounded_0 (a b : Int) (w : World) (h1 : -1000000000000000000 ≤ a) (h2 : a ≤ 1000000000000000000) (h3 : -1000000000000000000 ≤ b) (h4 : b ≤ 1000000000000000000) (h0 : b ≠ 0) :
  Calls Tryd.prog 10 #[.int .i64 a, .int .i64 b, .int .i64 0] w fun e w' => e = .returned (.int .i64 (rnd 0 a b)) ∧ Below w.heap.size w w' := by
 unfold rnd
 have hd := fun w => qdivide_any a b w h1 h2 h3 h4 h0
 have q1 := abs_div (a := a) (b := b)
 have q2 : (a.natAbs : Int) / (b.natAbs : Int) ≤ 1000000000000000000 := Int.le_trans q1.2 (by omega)
 have q3 : 0 ≤ (a.natAbs : Int) % (b.natAbs : Int) := Int.emod_nonneg _ (by omega)
 have q4 : (a.natAbs : Int) % (b.natAbs : Int) ≤ 1000000000000000000 := Int.le_trans (Int.le_of_lt (Int.emod_lt_of_pos _ (by omega))) (show (b.natAbs : Int) ≤ 1000000000000000000 by omega)
 have q0 := q1.1
 clear q1
 generalize (a.natAbs : Int) / (b.natAbs : Int) = x at *
 generalize (a.natAbs : Int) % (b.natAbs : Int) = r at *
 generalize (b.natAbs : Int) = d at *
 generalize negB a b = neg at *
 have HD := Lib.hid hd
 clear hd h1 h2 h3 h4 h0
 obtain ⟨z, hz⟩ : ∃ z, sgn neg (rqN 0 neg x r d) = z := ⟨_, rfl⟩
 have HZ : Hid (sgn neg (if 2 * r < d then x else upN x r) = z) := Lib.hid (by rw [← hz]; rfl)
 rw [hz]
 clear hz
 have HQ : Hid (∀ w, Calls Tryd.prog 29 #[.agg #[.bool neg, .int .i64 x, .int .i64 r, .int .i64 d]] w fun e w' => e = .returned (.int .i64 z) ∧ Below w.heap.size w w') := Lib.hid (fun w => by rw [← HZ.out]; exact qaway_any _ _ _ _ _ q0 q2 q3 q4)
 clear HZ q0 q2 q3 q4
 go_enter Tryd.func10, Tryd.ntmps10
 go_upto_region 1 with (fail)
 refine AS.region_facts (rdFL 0 a b neg x r d z 29) (DNo w) [[], [], [7, 8], [], [], [10, 11], [9, 12], [13]] [] [[]] [0, 0, 0, 0, 0, 0, 0, 0] [] (fun u => by simp only [rdFL, AS.temps, List.map_cons, List.map_nil, fillL, List.setIfInBounds_toArray, List.set_cons_zero, List.set_cons_succ]; rfl) (by kernel_rfl) (by kernel_rfl) (DNo.st w) (dc_drew (Below.refl _ _)) ?_ ?_
 ·refine AS.sc rfl rfl rfl ?_ ?_
  ·intro k_ u w_ hk hJ hF K hK
   clear hF
   go_simp
   refine (modes_any _).mono ?_
   rintro e w' ⟨rfl, hb⟩
   exact hK.out _ _ hb rfl trivial
  refine AS.sc rfl rfl rfl ?_ ?_
  ·intro k_ u w_ hk hJ hF K hK
   clear hF
   go_simp
   exact hK.out _ _ (Below.refl _ _) (rfl) trivial
  refine AS.sc rfl rfl rfl ?_ ?_
  ·intro k_ u w_ hk hJ hF K hK
   have h7 : u 7 = .agg #[.func (Fn.func 29) #[] #[], .func (Fn.func 30) #[] #[], .func (Fn.func 31) #[] #[], .func (Fn.func 32) #[] #[], .func (Fn.func 33) #[] #[], .func (Fn.func 34) #[] #[]] := AS.facts_get hF 7 (by simp)
   have h8 : u 8 = .int .i64 0 := AS.facts_get hF 8 (by simp)
   clear hF
   simp only [h7, h8] at hK ⊢
   clear h7 h8
   go_simp
   exact hK.out _ _ (Below.refl _ _) (rfl) trivial
  refine AS.sc rfl rfl rfl ?_ ?_
  ·intro k_ u w_ hk hJ hF K hK
   clear hF
   go_simp
   exact hK.out _ _ (Below.refl _ _) (rfl) trivial
  refine AS.sc rfl rfl rfl ?_ ?_
  ·intro k_ u w_ hk hJ hF K hK
   clear hF
   go_simp
   exact hK.out _ _ (Below.refl _ _) (rfl) trivial
  refine AS.sc rfl rfl rfl ?_ ?_
  ·intro k_ u w_ hk hJ hF K hK
   have h10 : u 10 = .int .i64 a := AS.facts_get hF 10 (by simp)
   have h11 : u 11 = .int .i64 b := AS.facts_get hF 11 (by simp)
   clear hF
   simp only [h10, h11] at hK ⊢
   clear h10 h11
   go_simp
   refine (HD.out _).mono ?_
   rintro e w' ⟨rfl, hb⟩
   exact hK.out _ _ hb rfl trivial
  refine AS.sc rfl rfl rfl ?_ ?_
  ·intro k_ u w_ hk hJ hF K hK
   have h9 : u 9 = .func (Fn.func 29) #[] #[] := AS.facts_get hF 9 (by simp)
   have h12 : u 12 = .agg #[.bool neg, .int .i64 x, .int .i64 r, .int .i64 d] := AS.facts_get hF 12 (by simp)
   clear hF
   simp only [h9, h12] at hK ⊢
   clear h9 h12
   go_simp
   refine (HQ.out _).mono ?_
   rintro e w' ⟨rfl, hb⟩
   exact hK.out _ _ hb rfl trivial
  refine AS.sc rfl rfl rfl ?_ ?_
  ·intro k_ u w_ hk hJ hF K hK
   have h13 : u 13 = .int .i64 z := AS.facts_get hF 13 (by simp)
   clear hF
   simp only [h13] at hK ⊢
   clear h13
   go_simp
   exact hK.out _ _ (Below.refl _ _) (rfl) trivial
  exact AS.StepsOk.nil
 ·intro u W3 hJ9 hF
  have h6 : u 6 = .int .i64 z := AS.facts_get hF 6 (by simp [rdFL, AS.temps])
  clear hF
  rw [show u 6 = _ from h6]
  clear h6
  go_wp2_with fail
  go_ret
  exact ⟨rfl, hJ9⟩
set_option maxRecDepth 20000 in
set_option maxHeartbeats 1600000 in
theorem rounded_1 (a b : Int) (w : World) (h1 : -1000000000000000000 ≤ a) (h2 : a ≤ 1000000000000000000) (h3 : -1000000000000000000 ≤ b) (h4 : b ≤ 1000000000000000000) (h0 : b ≠ 0) :
  Calls Tryd.prog 10 #[.int .i64 a, .int .i64 b, .int .i64 1] w fun e w' => e = .returned (.int .i64 (rnd 1 a b)) ∧ Below w.heap.size w w' := by
 unfold rnd
 have hd := fun w => qdivide_any a b w h1 h2 h3 h4 h0
 have q1 := abs_div (a := a) (b := b)
 have q2 : (a.natAbs : Int) / (b.natAbs : Int) ≤ 1000000000000000000 := Int.le_trans q1.2 (by omega)
 have q3 : 0 ≤ (a.natAbs : Int) % (b.natAbs : Int) := Int.emod_nonneg _ (by omega)
 have q4 : (a.natAbs : Int) % (b.natAbs : Int) ≤ 1000000000000000000 := Int.le_trans (Int.le_of_lt (Int.emod_lt_of_pos _ (by omega))) (show (b.natAbs : Int) ≤ 1000000000000000000 by omega)
 have q0 := q1.1
 clear q1
 generalize (a.natAbs : Int) / (b.natAbs : Int) = x at *
 generalize (a.natAbs : Int) % (b.natAbs : Int) = r at *
 generalize (b.natAbs : Int) = d at *
 generalize negB a b = neg at *
 have HD := Lib.hid hd
 clear hd h1 h2 h3 h4 h0
 obtain ⟨z, hz⟩ : ∃ z, sgn neg (rqN 1 neg x r d) = z := ⟨_, rfl⟩
 have HZ : Hid (sgn neg (if 2 * r = d ∧ x % 2 = 0 then x else if 2 * r < d then x else upN x r) = z) := Lib.hid (by rw [← hz]; rfl)
 rw [hz]
 clear hz
 have HQ : Hid (∀ w, Calls Tryd.prog 30 #[.agg #[.bool neg, .int .i64 x, .int .i64 r, .int .i64 d]] w fun e w' => e = .returned (.int .i64 z) ∧ Below w.heap.size w w') := Lib.hid (fun w => by rw [← HZ.out]; exact qeven_any _ _ _ _ _ q0 q2 q3 q4)
 clear HZ q0 q2 q3 q4
 go_enter Tryd.func10, Tryd.ntmps10
 go_upto_region 1 with (fail)
 refine AS.region_facts (rdFL 1 a b neg x r d z 30) (DNo w) [[], [], [7, 8], [], [], [10, 11], [9, 12], [13]] [] [[]] [0, 0, 0, 0, 0, 0, 0, 0] [] (fun u => by simp only [rdFL, AS.temps, List.map_cons, List.map_nil, fillL, List.setIfInBounds_toArray, List.set_cons_zero, List.set_cons_succ]; rfl) (by kernel_rfl) (by kernel_rfl) (DNo.st w) (dc_drew (Below.refl _ _)) ?_ ?_
 ·refine AS.sc rfl rfl rfl ?_ ?_
  ·intro k_ u w_ hk hJ hF K hK
   clear hF
   go_simp
   refine (modes_any _).mono ?_
   rintro e w' ⟨rfl, hb⟩
   exact hK.out _ _ hb rfl trivial
  refine AS.sc rfl rfl rfl ?_ ?_
  ·intro k_ u w_ hk hJ hF K hK
   clear hF
   go_simp
   exact hK.out _ _ (Below.refl _ _) (rfl) trivial
  refine AS.sc rfl rfl rfl ?_ ?_
  ·intro k_ u w_ hk hJ hF K hK
   have h7 : u 7 = .agg #[.func (Fn.func 29) #[] #[], .func (Fn.func 30) #[] #[], .func (Fn.func 31) #[] #[], .func (Fn.func 32) #[] #[], .func (Fn.func 33) #[] #[], .func (Fn.func 34) #[] #[]] := AS.facts_get hF 7 (by simp)
   have h8 : u 8 = .int .i64 1 := AS.facts_get hF 8 (by simp)
   clear hF
   simp only [h7, h8] at hK ⊢
   clear h7 h8
   go_simp
   exact hK.out _ _ (Below.refl _ _) (rfl) trivial
  refine AS.sc rfl rfl rfl ?_ ?_
  ·intro k_ u w_ hk hJ hF K hK
   clear hF
   go_simp
   exact hK.out _ _ (Below.refl _ _) (rfl) trivial
  refine AS.sc rfl rfl rfl ?_ ?_
  ·intro k_ u w_ hk hJ hF K hK
   clear hF
   go_simp
   exact hK.out _ _ (Below.refl _ _) (rfl) trivial
  refine AS.sc rfl rfl rfl ?_ ?_
  ·intro k_ u w_ hk hJ hF K hK
   have h10 : u 10 = .int .i64 a := AS.facts_get hF 10 (by simp)
   have h11 : u 11 = .int .i64 b := AS.facts_get hF 11 (by simp)
   clear hF
   simp only [h10, h11] at hK ⊢
   clear h10 h11
   go_simp
   refine (HD.out _).mono ?_
   rintro e w' ⟨rfl, hb⟩
   exact hK.out _ _ hb rfl trivial
  refine AS.sc rfl rfl rfl ?_ ?_
  ·intro k_ u w_ hk hJ hF K hK
   have h9 : u 9 = .func (Fn.func 30) #[] #[] := AS.facts_get hF 9 (by simp)
   have h12 : u 12 = .agg #[.bool neg, .int .i64 x, .int .i64 r, .int .i64 d] := AS.facts_get hF 12 (by simp)
   clear hF
   simp only [h9, h12] at hK ⊢
   clear h9 h12
   go_simp
   refine (HQ.out _).mono ?_
   rintro e w' ⟨rfl, hb⟩
   exact hK.out _ _ hb rfl trivial
  refine AS.sc rfl rfl rfl ?_ ?_
  ·intro k_ u w_ hk hJ hF K hK
   have h13 : u 13 = .int .i64 z := AS.facts_get hF 13 (by simp)
   clear hF
   simp only [h13] at hK ⊢
   clear h13
   go_simp
   exact hK.out _ _ (Below.refl _ _) (rfl) trivial
  exact AS.StepsOk.nil
 ·intro u W3 hJ9 hF
  have h6 : u 6 = .int .i64 z := AS.facts_get hF 6 (by simp [rdFL, AS.temps])
  clear hF
  rw [show u 6 = _ from h6]
  clear h6
  go_wp2_with fail
  go_ret
  exact ⟨rfl, hJ9⟩
set_option maxRecDepth 20000 in
set_option maxHeartbeats 1600000 in
theorem rounded_2 (a b : Int) (w : World) (h1 : -1000000000000000000 ≤ a) (h2 : a ≤ 1000000000000000000) (h3 : -1000000000000000000 ≤ b) (h4 : b ≤ 1000000000000000000) (h0 : b ≠ 0) :
  Calls Tryd.prog 10 #[.int .i64 a, .int .i64 b, .int .i64 2] w fun e w' => e = .returned (.int .i64 (rnd 2 a b)) ∧ Below w.heap.size w w' := by
 unfold rnd
 have hd := fun w => qdivide_any a b w h1 h2 h3 h4 h0
 have q1 := abs_div (a := a) (b := b)
 have q2 : (a.natAbs : Int) / (b.natAbs : Int) ≤ 1000000000000000000 := Int.le_trans q1.2 (by omega)
 have q3 : 0 ≤ (a.natAbs : Int) % (b.natAbs : Int) := Int.emod_nonneg _ (by omega)
 have q4 : (a.natAbs : Int) % (b.natAbs : Int) ≤ 1000000000000000000 := Int.le_trans (Int.le_of_lt (Int.emod_lt_of_pos _ (by omega))) (show (b.natAbs : Int) ≤ 1000000000000000000 by omega)
 have q0 := q1.1
 clear q1
 generalize (a.natAbs : Int) / (b.natAbs : Int) = x at *
 generalize (a.natAbs : Int) % (b.natAbs : Int) = r at *
 generalize (b.natAbs : Int) = d at *
 generalize negB a b = neg at *
 have HD := Lib.hid hd
 clear hd h1 h2 h3 h4 h0
 obtain ⟨z, hz⟩ : ∃ z, sgn neg (rqN 2 neg x r d) = z := ⟨_, rfl⟩
 have HZ : Hid (sgn neg (x) = z) := Lib.hid (by rw [← hz]; rfl)
 rw [hz]
 clear hz
 have HQ : Hid (∀ w, Calls Tryd.prog 31 #[.agg #[.bool neg, .int .i64 x, .int .i64 r, .int .i64 d]] w fun e w' => e = .returned (.int .i64 z) ∧ Below w.heap.size w w') := Lib.hid (fun w => by rw [← HZ.out]; exact qdown_any _ _ _ _ _ q0 q2)
 clear HZ q0 q2 q3 q4
 go_enter Tryd.func10, Tryd.ntmps10
 go_upto_region 1 with (fail)
 refine AS.region_facts (rdFL 2 a b neg x r d z 31) (DNo w) [[], [], [7, 8], [], [], [10, 11], [9, 12], [13]] [] [[]] [0, 0, 0, 0, 0, 0, 0, 0] [] (fun u => by simp only [rdFL, AS.temps, List.map_cons, List.map_nil, fillL, List.setIfInBounds_toArray, List.set_cons_zero, List.set_cons_succ]; rfl) (by kernel_rfl) (by kernel_rfl) (DNo.st w) (dc_drew (Below.refl _ _)) ?_ ?_
 ·refine AS.sc rfl rfl rfl ?_ ?_
  ·intro k_ u w_ hk hJ hF K hK
   clear hF
   go_simp
   refine (modes_any _).mono ?_
   rintro e w' ⟨rfl, hb⟩
   exact hK.out _ _ hb rfl trivial
  refine AS.sc rfl rfl rfl ?_ ?_
  ·intro k_ u w_ hk hJ hF K hK
   clear hF
   go_simp
   exact hK.out _ _ (Below.refl _ _) (rfl) trivial
  refine AS.sc rfl rfl rfl ?_ ?_
  ·intro k_ u w_ hk hJ hF K hK
   have h7 : u 7 = .agg #[.func (Fn.func 29) #[] #[], .func (Fn.func 30) #[] #[], .func (Fn.func 31) #[] #[], .func (Fn.func 32) #[] #[], .func (Fn.func 33) #[] #[], .func (Fn.func 34) #[] #[]] := AS.facts_get hF 7 (by simp)
   have h8 : u 8 = .int .i64 2 := AS.facts_get hF 8 (by simp)
   clear hF
   simp only [h7, h8] at hK ⊢
   clear h7 h8
   go_simp
   exact hK.out _ _ (Below.refl _ _) (rfl) trivial
  refine AS.sc rfl rfl rfl ?_ ?_
  ·intro k_ u w_ hk hJ hF K hK
   clear hF
   go_simp
   exact hK.out _ _ (Below.refl _ _) (rfl) trivial
  refine AS.sc rfl rfl rfl ?_ ?_
  ·intro k_ u w_ hk hJ hF K hK
   clear hF
   go_simp
   exact hK.out _ _ (Below.refl _ _) (rfl) trivial
  refine AS.sc rfl rfl rfl ?_ ?_
  ·intro k_ u w_ hk hJ hF K hK
   have h10 : u 10 = .int .i64 a := AS.facts_get hF 10 (by simp)
   have h11 : u 11 = .int .i64 b := AS.facts_get hF 11 (by simp)
   clear hF
   simp only [h10, h11] at hK ⊢
   clear h10 h11
   go_simp
   refine (HD.out _).mono ?_
   rintro e w' ⟨rfl, hb⟩
   exact hK.out _ _ hb rfl trivial
  refine AS.sc rfl rfl rfl ?_ ?_
  ·intro k_ u w_ hk hJ hF K hK
   have h9 : u 9 = .func (Fn.func 31) #[] #[] := AS.facts_get hF 9 (by simp)
   have h12 : u 12 = .agg #[.bool neg, .int .i64 x, .int .i64 r, .int .i64 d] := AS.facts_get hF 12 (by simp)
   clear hF
   simp only [h9, h12] at hK ⊢
   clear h9 h12
   go_simp
   refine (HQ.out _).mono ?_
   rintro e w' ⟨rfl, hb⟩
   exact hK.out _ _ hb rfl trivial
  refine AS.sc rfl rfl rfl ?_ ?_
  ·intro k_ u w_ hk hJ hF K hK
   have h13 : u 13 = .int .i64 z := AS.facts_get hF 13 (by simp)
   clear hF
   simp only [h13] at hK ⊢
   clear h13
   go_simp
   exact hK.out _ _ (Below.refl _ _) (rfl) trivial
  exact AS.StepsOk.nil
 ·intro u W3 hJ9 hF
  have h6 : u 6 = .int .i64 z := AS.facts_get hF 6 (by simp [rdFL, AS.temps])
  clear hF
  rw [show u 6 = _ from h6]
  clear h6
  go_wp2_with fail
  go_ret
  exact ⟨rfl, hJ9⟩
set_option maxRecDepth 20000 in
set_option maxHeartbeats 1600000 in
theorem rounded_3 (a b : Int) (w : World) (h1 : -1000000000000000000 ≤ a) (h2 : a ≤ 1000000000000000000) (h3 : -1000000000000000000 ≤ b) (h4 : b ≤ 1000000000000000000) (h0 : b ≠ 0) :
  Calls Tryd.prog 10 #[.int .i64 a, .int .i64 b, .int .i64 3] w fun e w' => e = .returned (.int .i64 (rnd 3 a b)) ∧ Below w.heap.size w w' := by
 unfold rnd
 have hd := fun w => qdivide_any a b w h1 h2 h3 h4 h0
 have q1 := abs_div (a := a) (b := b)
 have q2 : (a.natAbs : Int) / (b.natAbs : Int) ≤ 1000000000000000000 := Int.le_trans q1.2 (by omega)
 have q3 : 0 ≤ (a.natAbs : Int) % (b.natAbs : Int) := Int.emod_nonneg _ (by omega)
 have q4 : (a.natAbs : Int) % (b.natAbs : Int) ≤ 1000000000000000000 := Int.le_trans (Int.le_of_lt (Int.emod_lt_of_pos _ (by omega))) (show (b.natAbs : Int) ≤ 1000000000000000000 by omega)
 have q0 := q1.1
 clear q1
 generalize (a.natAbs : Int) / (b.natAbs : Int) = x at *
 generalize (a.natAbs : Int) % (b.natAbs : Int) = r at *
 generalize (b.natAbs : Int) = d at *
 generalize negB a b = neg at *
 have HD := Lib.hid hd
 clear hd h1 h2 h3 h4 h0
 obtain ⟨z, hz⟩ : ∃ z, sgn neg (rqN 3 neg x r d) = z := ⟨_, rfl⟩
 have HZ : Hid (sgn neg (upN x r) = z) := Lib.hid (by rw [← hz]; rfl)
 rw [hz]
 clear hz
 have HQ : Hid (∀ w, Calls Tryd.prog 32 #[.agg #[.bool neg, .int .i64 x, .int .i64 r, .int .i64 d]] w fun e w' => e = .returned (.int .i64 z) ∧ Below w.heap.size w w') := Lib.hid (fun w => by rw [← HZ.out]; exact qup_any _ _ _ _ _ q0 q2)
 clear HZ q0 q2 q3 q4
 go_enter Tryd.func10, Tryd.ntmps10
 go_upto_region 1 with (fail)
 refine AS.region_facts (rdFL 3 a b neg x r d z 32) (DNo w) [[], [], [7, 8], [], [], [10, 11], [9, 12], [13]] [] [[]] [0, 0, 0, 0, 0, 0, 0, 0] [] (fun u => by simp only [rdFL, AS.temps, List.map_cons, List.map_nil, fillL, List.setIfInBounds_toArray, List.set_cons_zero, List.set_cons_succ]; rfl) (by kernel_rfl) (by kernel_rfl) (DNo.st w) (dc_drew (Below.refl _ _)) ?_ ?_
 ·refine AS.sc rfl rfl rfl ?_ ?_
  ·intro k_ u w_ hk hJ hF K hK
   clear hF
   go_simp
   refine (modes_any _).mono ?_
   rintro e w' ⟨rfl, hb⟩
   exact hK.out _ _ hb rfl trivial
  refine AS.sc rfl rfl rfl ?_ ?_
  ·intro k_ u w_ hk hJ hF K hK
   clear hF
   go_simp
   exact hK.out _ _ (Below.refl _ _) (rfl) trivial
  refine AS.sc rfl rfl rfl ?_ ?_
  ·intro k_ u w_ hk hJ hF K hK
   have h7 : u 7 = .agg #[.func (Fn.func 29) #[] #[], .func (Fn.func 30) #[] #[], .func (Fn.func 31) #[] #[], .func (Fn.func 32) #[] #[], .func (Fn.func 33) #[] #[], .func (Fn.func 34) #[] #[]] := AS.facts_get hF 7 (by simp)
   have h8 : u 8 = .int .i64 3 := AS.facts_get hF 8 (by simp)
   clear hF
   simp only [h7, h8] at hK ⊢
   clear h7 h8
   go_simp
   exact hK.out _ _ (Below.refl _ _) (rfl) trivial
  refine AS.sc rfl rfl rfl ?_ ?_
  ·intro k_ u w_ hk hJ hF K hK
   clear hF
   go_simp
   exact hK.out _ _ (Below.refl _ _) (rfl) trivial
  refine AS.sc rfl rfl rfl ?_ ?_
  ·intro k_ u w_ hk hJ hF K hK
   clear hF
   go_simp
   exact hK.out _ _ (Below.refl _ _) (rfl) trivial
  refine AS.sc rfl rfl rfl ?_ ?_
  ·intro k_ u w_ hk hJ hF K hK
   have h10 : u 10 = .int .i64 a := AS.facts_get hF 10 (by simp)
   have h11 : u 11 = .int .i64 b := AS.facts_get hF 11 (by simp)
   clear hF
   simp only [h10, h11] at hK ⊢
   clear h10 h11
   go_simp
   refine (HD.out _).mono ?_
   rintro e w' ⟨rfl, hb⟩
   exact hK.out _ _ hb rfl trivial
  refine AS.sc rfl rfl rfl ?_ ?_
  ·intro k_ u w_ hk hJ hF K hK
   have h9 : u 9 = .func (Fn.func 32) #[] #[] := AS.facts_get hF 9 (by simp)
   have h12 : u 12 = .agg #[.bool neg, .int .i64 x, .int .i64 r, .int .i64 d] := AS.facts_get hF 12 (by simp)
   clear hF
   simp only [h9, h12] at hK ⊢
   clear h9 h12
   go_simp
   refine (HQ.out _).mono ?_
   rintro e w' ⟨rfl, hb⟩
   exact hK.out _ _ hb rfl trivial
  refine AS.sc rfl rfl rfl ?_ ?_
  ·intro k_ u w_ hk hJ hF K hK
   have h13 : u 13 = .int .i64 z := AS.facts_get hF 13 (by simp)
   clear hF
   simp only [h13] at hK ⊢
   clear h13
   go_simp
   exact hK.out _ _ (Below.refl _ _) (rfl) trivial
  exact AS.StepsOk.nil
 ·intro u W3 hJ9 hF
  have h6 : u 6 = .int .i64 z := AS.facts_get hF 6 (by simp [rdFL, AS.temps])
  clear hF
  rw [show u 6 = _ from h6]
  clear h6
  go_wp2_with fail
  go_ret
  exact ⟨rfl, hJ9⟩
set_option maxRecDepth 20000 in
set_option maxHeartbeats 1600000 in
theorem rounded_4 (a b : Int) (w : World) (h1 : -1000000000000000000 ≤ a) (h2 : a ≤ 1000000000000000000) (h3 : -1000000000000000000 ≤ b) (h4 : b ≤ 1000000000000000000) (h0 : b ≠ 0) :
  Calls Tryd.prog 10 #[.int .i64 a, .int .i64 b, .int .i64 4] w fun e w' => e = .returned (.int .i64 (rnd 4 a b)) ∧ Below w.heap.size w w' := by
 unfold rnd
 have hd := fun w => qdivide_any a b w h1 h2 h3 h4 h0
 have q1 := abs_div (a := a) (b := b)
 have q2 : (a.natAbs : Int) / (b.natAbs : Int) ≤ 1000000000000000000 := Int.le_trans q1.2 (by omega)
 have q3 : 0 ≤ (a.natAbs : Int) % (b.natAbs : Int) := Int.emod_nonneg _ (by omega)
 have q4 : (a.natAbs : Int) % (b.natAbs : Int) ≤ 1000000000000000000 := Int.le_trans (Int.le_of_lt (Int.emod_lt_of_pos _ (by omega))) (show (b.natAbs : Int) ≤ 1000000000000000000 by omega)
 have q0 := q1.1
 clear q1
 generalize (a.natAbs : Int) / (b.natAbs : Int) = x at *
 generalize (a.natAbs : Int) % (b.natAbs : Int) = r at *
 generalize (b.natAbs : Int) = d at *
 generalize negB a b = neg at *
 have HD := Lib.hid hd
 clear hd h1 h2 h3 h4 h0
 obtain ⟨z, hz⟩ : ∃ z, sgn neg (rqN 4 neg x r d) = z := ⟨_, rfl⟩
 have HZ : Hid (sgn neg (if neg then upN x r else x) = z) := Lib.hid (by rw [← hz]; rfl)
 rw [hz]
 clear hz
 have HQ : Hid (∀ w, Calls Tryd.prog 33 #[.agg #[.bool neg, .int .i64 x, .int .i64 r, .int .i64 d]] w fun e w' => e = .returned (.int .i64 z) ∧ Below w.heap.size w w') := Lib.hid (fun w => by rw [← HZ.out]; exact qfloor_any _ _ _ _ _ q0 q2)
 clear HZ q0 q2 q3 q4
 go_enter Tryd.func10, Tryd.ntmps10
 go_upto_region 1 with (fail)
 refine AS.region_facts (rdFL 4 a b neg x r d z 33) (DNo w) [[], [], [7, 8], [], [], [10, 11], [9, 12], [13]] [] [[]] [0, 0, 0, 0, 0, 0, 0, 0] [] (fun u => by simp only [rdFL, AS.temps, List.map_cons, List.map_nil, fillL, List.setIfInBounds_toArray, List.set_cons_zero, List.set_cons_succ]; rfl) (by kernel_rfl) (by kernel_rfl) (DNo.st w) (dc_drew (Below.refl _ _)) ?_ ?_
 ·refine AS.sc rfl rfl rfl ?_ ?_
  ·intro k_ u w_ hk hJ hF K hK
   clear hF
   go_simp
   refine (modes_any _).mono ?_
   rintro e w' ⟨rfl, hb⟩
   exact hK.out _ _ hb rfl trivial
  refine AS.sc rfl rfl rfl ?_ ?_
  ·intro k_ u w_ hk hJ hF K hK
   clear hF
   go_simp
   exact hK.out _ _ (Below.refl _ _) (rfl) trivial
  refine AS.sc rfl rfl rfl ?_ ?_
  ·intro k_ u w_ hk hJ hF K hK
   have h7 : u 7 = .agg #[.func (Fn.func 29) #[] #[], .func (Fn.func 30) #[] #[], .func (Fn.func 31) #[] #[], .func (Fn.func 32) #[] #[], .func (Fn.func 33) #[] #[], .func (Fn.func 34) #[] #[]] := AS.facts_get hF 7 (by simp)
   have h8 : u 8 = .int .i64 4 := AS.facts_get hF 8 (by simp)
   clear hF
   simp only [h7, h8] at hK ⊢
   clear h7 h8
   go_simp
   exact hK.out _ _ (Below.refl _ _) (rfl) trivial
  refine AS.sc rfl rfl rfl ?_ ?_
  ·intro k_ u w_ hk hJ hF K hK
   clear hF
   go_simp
   exact hK.out _ _ (Below.refl _ _) (rfl) trivial
  refine AS.sc rfl rfl rfl ?_ ?_
  ·intro k_ u w_ hk hJ hF K hK
   clear hF
   go_simp
   exact hK.out _ _ (Below.refl _ _) (rfl) trivial
  refine AS.sc rfl rfl rfl ?_ ?_
  ·intro k_ u w_ hk hJ hF K hK
   have h10 : u 10 = .int .i64 a := AS.facts_get hF 10 (by simp)
   have h11 : u 11 = .int .i64 b := AS.facts_get hF 11 (by simp)
   clear hF
   simp only [h10, h11] at hK ⊢
   clear h10 h11
   go_simp
   refine (HD.out _).mono ?_
   rintro e w' ⟨rfl, hb⟩
   exact hK.out _ _ hb rfl trivial
  refine AS.sc rfl rfl rfl ?_ ?_
  ·intro k_ u w_ hk hJ hF K hK
   have h9 : u 9 = .func (Fn.func 33) #[] #[] := AS.facts_get hF 9 (by simp)
   have h12 : u 12 = .agg #[.bool neg, .int .i64 x, .int .i64 r, .int .i64 d] := AS.facts_get hF 12 (by simp)
   clear hF
   simp only [h9, h12] at hK ⊢
   clear h9 h12
   go_simp
   refine (HQ.out _).mono ?_
   rintro e w' ⟨rfl, hb⟩
   exact hK.out _ _ hb rfl trivial
  refine AS.sc rfl rfl rfl ?_ ?_
  ·intro k_ u w_ hk hJ hF K hK
   have h13 : u 13 = .int .i64 z := AS.facts_get hF 13 (by simp)
   clear hF
   simp only [h13] at hK ⊢
   clear h13
   go_simp
   exact hK.out _ _ (Below.refl _ _) (rfl) trivial
  exact AS.StepsOk.nil
 ·intro u W3 hJ9 hF
  have h6 : u 6 = .int .i64 z := AS.facts_get hF 6 (by simp [rdFL, AS.temps])
  clear hF
  rw [show u 6 = _ from h6]
  clear h6
  go_wp2_with fail
  go_ret
  exact ⟨rfl, hJ9⟩
set_option maxRecDepth 20000 in
set_option maxHeartbeats 1600000 in
theorem rounded_5 (a b : Int) (w : World) (h1 : -1000000000000000000 ≤ a) (h2 : a ≤ 1000000000000000000) (h3 : -1000000000000000000 ≤ b) (h4 : b ≤ 1000000000000000000) (h0 : b ≠ 0) :
  Calls Tryd.prog 10 #[.int .i64 a, .int .i64 b, .int .i64 5] w fun e w' => e = .returned (.int .i64 (rnd 5 a b)) ∧ Below w.heap.size w w' := by
 unfold rnd
 have hd := fun w => qdivide_any a b w h1 h2 h3 h4 h0
 have q1 := abs_div (a := a) (b := b)
 have q2 : (a.natAbs : Int) / (b.natAbs : Int) ≤ 1000000000000000000 := Int.le_trans q1.2 (by omega)
 have q3 : 0 ≤ (a.natAbs : Int) % (b.natAbs : Int) := Int.emod_nonneg _ (by omega)
 have q4 : (a.natAbs : Int) % (b.natAbs : Int) ≤ 1000000000000000000 := Int.le_trans (Int.le_of_lt (Int.emod_lt_of_pos _ (by omega))) (show (b.natAbs : Int) ≤ 1000000000000000000 by omega)
 have q0 := q1.1
 clear q1
 generalize (a.natAbs : Int) / (b.natAbs : Int) = x at *
 generalize (a.natAbs : Int) % (b.natAbs : Int) = r at *
 generalize (b.natAbs : Int) = d at *
 generalize negB a b = neg at *
 have HD := Lib.hid hd
 clear hd h1 h2 h3 h4 h0
 obtain ⟨z, hz⟩ : ∃ z, sgn neg (rqN 5 neg x r d) = z := ⟨_, rfl⟩
 have HZ : Hid (sgn neg (if neg then x else upN x r) = z) := Lib.hid (by rw [← hz]; rfl)
 rw [hz]
 clear hz
 have HQ : Hid (∀ w, Calls Tryd.prog 34 #[.agg #[.bool neg, .int .i64 x, .int .i64 r, .int .i64 d]] w fun e w' => e = .returned (.int .i64 z) ∧ Below w.heap.size w w') := Lib.hid (fun w => by rw [← HZ.out]; exact qceil_any _ _ _ _ _ q0 q2)
 clear HZ q0 q2 q3 q4
 go_enter Tryd.func10, Tryd.ntmps10
 go_upto_region 1 with (fail)
 refine AS.region_facts (rdFL 5 a b neg x r d z 34) (DNo w) [[], [], [7, 8], [], [], [10, 11], [9, 12], [13]] [] [[]] [0, 0, 0, 0, 0, 0, 0, 0] [] (fun u => by simp only [rdFL, AS.temps, List.map_cons, List.map_nil, fillL, List.setIfInBounds_toArray, List.set_cons_zero, List.set_cons_succ]; rfl) (by kernel_rfl) (by kernel_rfl) (DNo.st w) (dc_drew (Below.refl _ _)) ?_ ?_
 ·refine AS.sc rfl rfl rfl ?_ ?_
  ·intro k_ u w_ hk hJ hF K hK
   clear hF
   go_simp
   refine (modes_any _).mono ?_
   rintro e w' ⟨rfl, hb⟩
   exact hK.out _ _ hb rfl trivial
  refine AS.sc rfl rfl rfl ?_ ?_
  ·intro k_ u w_ hk hJ hF K hK
   clear hF
   go_simp
   exact hK.out _ _ (Below.refl _ _) (rfl) trivial
  refine AS.sc rfl rfl rfl ?_ ?_
  ·intro k_ u w_ hk hJ hF K hK
   have h7 : u 7 = .agg #[.func (Fn.func 29) #[] #[], .func (Fn.func 30) #[] #[], .func (Fn.func 31) #[] #[], .func (Fn.func 32) #[] #[], .func (Fn.func 33) #[] #[], .func (Fn.func 34) #[] #[]] := AS.facts_get hF 7 (by simp)
   have h8 : u 8 = .int .i64 5 := AS.facts_get hF 8 (by simp)
   clear hF
   simp only [h7, h8] at hK ⊢
   clear h7 h8
   go_simp
   exact hK.out _ _ (Below.refl _ _) (rfl) trivial
  refine AS.sc rfl rfl rfl ?_ ?_
  ·intro k_ u w_ hk hJ hF K hK
   clear hF
   go_simp
   exact hK.out _ _ (Below.refl _ _) (rfl) trivial
  refine AS.sc rfl rfl rfl ?_ ?_
  ·intro k_ u w_ hk hJ hF K hK
   clear hF
   go_simp
   exact hK.out _ _ (Below.refl _ _) (rfl) trivial
  refine AS.sc rfl rfl rfl ?_ ?_
  ·intro k_ u w_ hk hJ hF K hK
   have h10 : u 10 = .int .i64 a := AS.facts_get hF 10 (by simp)
   have h11 : u 11 = .int .i64 b := AS.facts_get hF 11 (by simp)
   clear hF
   simp only [h10, h11] at hK ⊢
   clear h10 h11
   go_simp
   refine (HD.out _).mono ?_
   rintro e w' ⟨rfl, hb⟩
   exact hK.out _ _ hb rfl trivial
  refine AS.sc rfl rfl rfl ?_ ?_
  ·intro k_ u w_ hk hJ hF K hK
   have h9 : u 9 = .func (Fn.func 34) #[] #[] := AS.facts_get hF 9 (by simp)
   have h12 : u 12 = .agg #[.bool neg, .int .i64 x, .int .i64 r, .int .i64 d] := AS.facts_get hF 12 (by simp)
   clear hF
   simp only [h9, h12] at hK ⊢
   clear h9 h12
   go_simp
   refine (HQ.out _).mono ?_
   rintro e w' ⟨rfl, hb⟩
   exact hK.out _ _ hb rfl trivial
  refine AS.sc rfl rfl rfl ?_ ?_
  ·intro k_ u w_ hk hJ hF K hK
   have h13 : u 13 = .int .i64 z := AS.facts_get hF 13 (by simp)
   clear hF
   simp only [h13] at hK ⊢
   clear h13
   go_simp
   exact hK.out _ _ (Below.refl _ _) (rfl) trivial
  exact AS.StepsOk.nil
 ·intro u W3 hJ9 hF
  have h6 : u 6 = .int .i64 z := AS.facts_get hF 6 (by simp [rdFL, AS.temps])
  clear hF
  rw [show u 6 = _ from h6]
  clear h6
  go_wp2_with fail
  go_ret
  exact ⟨rfl, hJ9⟩
theorem rounded_any (m a b : Int) (w : World) (hm0 : 0 ≤ m) (hm1 : m ≤ 5) (h1 : -1000000000000000000 ≤ a) (h2 : a ≤ 1000000000000000000) (h3 : -1000000000000000000 ≤ b) (h4 : b ≤ 1000000000000000000) (h0 : b ≠ 0) :
  Calls Tryd.prog 10 #[.int .i64 a, .int .i64 b, .int .i64 m] w fun e w' => e = .returned (.int .i64 (rnd m a b)) ∧ Below w.heap.size w w' := by
 have hc : m = 0 ∨ m = 1 ∨ m = 2 ∨ m = 3 ∨ m = 4 ∨ m = 5 := by omega
 rcases hc with rfl | rfl | rfl | rfl | rfl | rfl
 ·exact rounded_0 a b w h1 h2 h3 h4 h0
 ·exact rounded_1 a b w h1 h2 h3 h4 h0
 ·exact rounded_2 a b w h1 h2 h3 h4 h0
 ·exact rounded_3 a b w h1 h2 h3 h4 h0
 ·exact rounded_4 a b w h1 h2 h3 h4 h0
 ·exact rounded_5 a b w h1 h2 h3 h4 h0
def modeB (m : Int) : Bool := decide (0 ≤ m) && decide (m ≤ 5)
def termB (a : Int) : Bool := decide (-1000000000000000000 ≤ a) && decide (a ≤ 1000000000000000000)
def scaleB (s : Int) : Bool := decide (0 ≤ s) && decide (s ≤ 9)
def validB (n s : Int) : Bool := (decide (-1000000000000000 ≤ n) && decide (n ≤ 1000000000000000)) && scaleB s
theorem modeB_is {m : Int} (h : modeB m = true) : 0 ≤ m ∧ m ≤ 5 := by simpa [modeB] using h
theorem termB_is {m : Int} (h : termB m = true) : -1000000000000000000 ≤ m ∧ m ≤ 1000000000000000000 := by simpa [termB] using h
theorem validB_is {n s : Int} (h : validB n s = true) : (-1000000000000000 ≤ n ∧ n ≤ 1000000000000000) ∧ 0 ≤ s ∧ s ≤ 9 := by simpa [validB, scaleB, and_assoc] using h
theorem isMode_any (m : Int) (w : World) : Calls Tryd.prog 8 #[.int .i64 m] w fun e w' => e = .returned (.bool (modeB m)) ∧ Below w.heap.size w w' := by
 unfold modeB
 by_cases h1 : 0 ≤ m
 ·by_cases h2 : m ≤ 5
  ·rw [decide_eq_true h1, decide_eq_true h2]
   have h3 : m < 6 := by omega
   clear h2
   go_enter Tryd.func8, Tryd.ntmps8
   go_wp2_with (go_at_call 17; refine (modes_any _).mono ?_; rintro e w' ⟨rfl, hb⟩)
   go_ret
   exact ⟨rfl, hb⟩
  ·rw [decide_eq_true h1, decide_eq_false h2]
   have h3 : decide (m < 6) = false := decide_eq_false (by omega)
   clear h2
   go_enter Tryd.func8, Tryd.ntmps8
   go_wp2_with (go_at_call 17; refine (modes_any _).mono ?_; rintro e w' ⟨rfl, hb⟩)
   go_ret
   exact ⟨rfl, hb⟩
 ·rw [decide_eq_false h1]
  have h3 : decide (0 ≤ m) = false := decide_eq_false h1
  clear h1
  go_enter Tryd.func8, Tryd.ntmps8
  go_wp2
  go_ret
  exact ⟨rfl, Below.refl _ _⟩
theorem isTerm_any (a : Int) (w : World) : Calls Tryd.prog 9 #[.int .i64 a] w fun e w' => e = .returned (.bool (termB a)) ∧ w = w' := by
 unfold termB
 by_cases h1 : (-1000000000000000000 : Int) ≤ a
 ·by_cases h2 : a ≤ 1000000000000000000
  ·rw [decide_eq_true h1, decide_eq_true h2]
   go_enter Tryd.func9, Tryd.ntmps9
   go_wp2
   go_ret
   exact ⟨rfl, rfl⟩
  ·rw [decide_eq_true h1, decide_eq_false h2]
   have h3 : decide (a ≤ 1000000000000000000) = false := decide_eq_false h2
   clear h2
   go_enter Tryd.func9, Tryd.ntmps9
   go_wp2
   go_ret
   exact ⟨rfl, rfl⟩
 ·rw [decide_eq_false h1]
  have h3 : decide ((-1000000000000000000 : Int) ≤ a) = false := decide_eq_false h1
  clear h1
  go_enter Tryd.func9, Tryd.ntmps9
  go_wp2
  go_ret
  exact ⟨rfl, rfl⟩
theorem isScale_any (a : Int) (w : World) : Calls Tryd.prog 20 #[.int .i64 a] w fun e w' => e = .returned (.bool (scaleB a)) ∧ w = w' := by
 unfold scaleB
 by_cases h1 : (0 : Int) ≤ a
 ·by_cases h2 : a ≤ 9
  ·rw [decide_eq_true h1, decide_eq_true h2]
   go_enter Tryd.func20, Tryd.ntmps20
   go_wp2
   go_ret
   exact ⟨rfl, rfl⟩
  ·rw [decide_eq_true h1, decide_eq_false h2]
   have h3 : decide (a ≤ 9) = false := decide_eq_false h2
   clear h2
   go_enter Tryd.func20, Tryd.ntmps20
   go_wp2
   go_ret
   exact ⟨rfl, rfl⟩
 ·rw [decide_eq_false h1]
  have h3 : decide ((0 : Int) ≤ a) = false := decide_eq_false h1
  clear h1
  go_enter Tryd.func20, Tryd.ntmps20
  go_wp2
  go_ret
  exact ⟨rfl, rfl⟩
theorem known_any (a : Int) (w : World) : Calls Tryd.prog 11 #[.int .i64 a] w fun e w' => e = .returned (.bool (modeB a)) ∧ w = w' := by
 unfold modeB
 by_cases h1 : (0 : Int) ≤ a
 ·by_cases h2 : a ≤ 5
  ·rw [decide_eq_true h1, decide_eq_true h2]
   go_enter Tryd.func11, Tryd.ntmps11
   go_wp2
   go_ret
   exact ⟨rfl, rfl⟩
  ·rw [decide_eq_true h1, decide_eq_false h2]
   have h3 : decide (a ≤ 5) = false := decide_eq_false h2
   clear h2
   go_enter Tryd.func11, Tryd.ntmps11
   go_wp2
   go_ret
   exact ⟨rfl, rfl⟩
 ·rw [decide_eq_false h1]
  have h3 : decide ((0 : Int) ≤ a) = false := decide_eq_false h1
  clear h1
  go_enter Tryd.func11, Tryd.ntmps11
  go_wp2
  go_ret
  exact ⟨rfl, rfl⟩
theorem valid_any (n s : Int) (w : World) : Calls Tryd.prog 13 #[.int .i64 n, .int .i64 s] w fun e w' => e = .returned (.bool (validB n s)) ∧ w = w' := by
 unfold validB
 by_cases h1 : (-1000000000000000 : Int) ≤ n
 ·by_cases h2 : n ≤ 1000000000000000
  ·rw [decide_eq_true h1, decide_eq_true h2]
   go_enter Tryd.func13, Tryd.ntmps13
   go_wp2_with (go_at_call 20; refine (isScale_any _ _).mono ?_; rintro e w' ⟨rfl, rfl⟩)
   go_ret
   exact ⟨dret_bool (by simp), rfl⟩
  ·rw [decide_eq_true h1, decide_eq_false h2]
   have h3 : decide (n ≤ 1000000000000000) = false := decide_eq_false h2
   clear h2
   go_enter Tryd.func13, Tryd.ntmps13
   go_wp2
   go_ret
   exact ⟨rfl, rfl⟩
 ·rw [decide_eq_false h1]
  have h3 : decide ((-1000000000000000 : Int) ≤ n) = false := decide_eq_false h1
  clear h1
  go_enter Tryd.func13, Tryd.ntmps13
  go_wp2
  go_ret
  exact ⟨rfl, rfl⟩
theorem size_any (a : Int) (w : World) (h1 : -9223372036854775807 ≤ a) (h2 : a ≤ 9223372036854775807) : Calls Tryd.prog 19 #[.int .i64 a] w fun e w' => e = .returned (.int .i64 (a.natAbs : Int)) ∧ w = w' := by
 by_cases h : a < 0
 ·rw [show (a.natAbs : Int) = -a by omega]
  go_enter Tryd.func19, Tryd.ntmps19
  go_wp2
  go_ret
  exact ⟨rfl, rfl⟩
 ·rw [show (a.natAbs : Int) = a by omega]
  go_enter Tryd.func19, Tryd.ntmps19
  go_wp2
  go_ret
  exact ⟨rfl, rfl⟩
theorem rep48 (c : Nat) (w : World) (hc : c ≤ 20) : Calls Tryd.prog 16 #[.string ⟨#[48]⟩, .int .i64 c] w fun e w' => e = .returned (.string ⟨(Lib.repeatL [48] c).toArray⟩) ∧ Below w.heap.size w w' :=
 Tryd.strings_Repeat ⟨#[48]⟩ c w (by omega) (by rw [show (⟨#[48]⟩ : ByteArray).size = 1 from rfl]; omega)
def padD (D : List UInt8) (s : Nat) : List UInt8 := List.replicate (s + 1 - D.length) 48 ++ D
theorem padD_len (D : List UInt8) (s : Nat) : s < (padD D s).length := by unfold padD; simp; omega
theorem padD_le {D : List UInt8} {s n : Nat} (h : D.length ≤ n) (h2 : s < n) : (padD D s).length ≤ n := by unfold padD; simp; omega
def bareT (P : List UInt8) (s : Nat) : List UInt8 := if s = 0 then P else P.take (P.length - s) ++ 46 :: P.drop (P.length - s)
def signT (neg : Bool) (T : List UInt8) : List UInt8 := if neg then 45 :: T else T
set_option maxHeartbeats 800000 in
theorem dtext_000 (n : Int) (I D : List UInt8) (s : Nat) (w : World) (ht : DTab w.heap.size w) (hv : validB n s = true) (hd : Lib.itoa n = I) (h1 : Lib.trimPrefix I [45] = D) (h2 : Lib.hasPrefix I [45] = false) (hl : D.length ≤ 20) (hm : s < D.length) (hs : 0 < s) :
  Calls Tryd.prog 7 #[.int .i64 n, .int .i64 s] w fun e w' => e = .returned (.string ⟨(signT false (bareT (padD D s) s)).toArray⟩) ∧ Below w.heap.size w w' := by
 have hn := validB_is hv
 have hpl := padD_len D s
 have hple := padD_le (D := D) (s := s) (n := 20) hl (by omega)
 have hp0 : padD D s = D := by unfold padD; rw [show s + 1 - D.length = 0 by omega]; rfl
 rw [hp0] at *
 have hlt : decide ((D.length : Int) < (s : Int) + 1) = false := decide_eq_false (by omega)
 clear hp0
 obtain ⟨R, hR⟩ : ∃ R, signT false (bareT D s) = R := ⟨_, rfl⟩
 rw [hR]
 have HR := Lib.hid hR
 clear hR
 have hB := Below.refl w.heap.size w
 have HS := Lib.hid hs
 go_enter Tryd.func7, Tryd.ntmps7
 go_wp2_with (first | (go_at_call 13; refine (valid_any _ _ _).mono ?_; rintro e w' ⟨rfl, rfl⟩) | (go_at_call 15; refine (itoa_any _ (by omega) (by omega) _ ht).mono ?_; rintro e w' ⟨rfl, hb⟩; replace hB := below_more hB hb; clear hb) | (go_at_call 14; refine (Tryd.strings_CutPrefix _ _ _).mono ?_; rintro e w' ⟨rfl, hw⟩; subst hw) | (go_at_call 16; refine (rep48 c _ hc9).mono ?_; rintro e w' ⟨rfl, hb⟩; replace hB := below_more hB hb; clear hb))
 go_ret
 exact ⟨dret_str (bytes_eq (by rw [← HR.out]; simp [signT, bareT, ByteArray.data_append, Nat.pos_iff_ne_zero.1 HS.out, Lib.extract_data] <;> exact List.take_of_length_le (by simp))), hB⟩
set_option maxHeartbeats 800000 in
theorem dtext_100 (n : Int) (I D : List UInt8) (s : Nat) (w : World) (ht : DTab w.heap.size w) (hv : validB n s = true) (hd : Lib.itoa n = I) (h1 : Lib.trimPrefix I [45] = D) (h2 : Lib.hasPrefix I [45] = true) (hl : D.length ≤ 20) (hm : s < D.length) (hs : 0 < s) :
  Calls Tryd.prog 7 #[.int .i64 n, .int .i64 s] w fun e w' => e = .returned (.string ⟨(signT true (bareT (padD D s) s)).toArray⟩) ∧ Below w.heap.size w w' := by
 have hn := validB_is hv
 have hpl := padD_len D s
 have hple := padD_le (D := D) (s := s) (n := 20) hl (by omega)
 have hp0 : padD D s = D := by unfold padD; rw [show s + 1 - D.length = 0 by omega]; rfl
 rw [hp0] at *
 have hlt : decide ((D.length : Int) < (s : Int) + 1) = false := decide_eq_false (by omega)
 clear hp0
 obtain ⟨R, hR⟩ : ∃ R, signT true (bareT D s) = R := ⟨_, rfl⟩
 rw [hR]
 have HR := Lib.hid hR
 clear hR
 have hB := Below.refl w.heap.size w
 have HS := Lib.hid hs
 go_enter Tryd.func7, Tryd.ntmps7
 go_wp2_with (first | (go_at_call 13; refine (valid_any _ _ _).mono ?_; rintro e w' ⟨rfl, rfl⟩) | (go_at_call 15; refine (itoa_any _ (by omega) (by omega) _ ht).mono ?_; rintro e w' ⟨rfl, hb⟩; replace hB := below_more hB hb; clear hb) | (go_at_call 14; refine (Tryd.strings_CutPrefix _ _ _).mono ?_; rintro e w' ⟨rfl, hw⟩; subst hw) | (go_at_call 16; refine (rep48 c _ hc9).mono ?_; rintro e w' ⟨rfl, hb⟩; replace hB := below_more hB hb; clear hb))
 go_ret
 exact ⟨dret_str (bytes_eq (by rw [← HR.out]; simp [signT, bareT, ByteArray.data_append, Nat.pos_iff_ne_zero.1 HS.out, Lib.extract_data] <;> exact List.take_of_length_le (by simp))), hB⟩
end Go.Proofs.YteemgcbopafilaaDoor
