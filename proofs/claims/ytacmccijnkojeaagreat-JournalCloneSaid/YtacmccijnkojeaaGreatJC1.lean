/- Contracts of the functions that the statements reach, part 1: what was proved of each, callees first. -/
import Derived.Deep.RegionHeld
import Derived.Below
import Derived.Deep.Draws
import Derived.Test.YtacmccijnkojeaaGreatProg
import Derived.WalkKit
import Derived.WalkSpells
import Derived.Lib.Hide
import Derived.Deep.QuietTactic
import Derived.BigQuiet
import Derived.Laws.Rows
import Derived.Laws.CopyOwn
import Derived.Deep.OwnRows
import Derived.Outline
import Derived.StillTail
import Derived.Laws.AppendOwnNone
import Derived.OwnWalk
import Derived.Handed
import Derived.ProofKit
import Derived.ChangeSlices
import Derived.OpenShut
import Derived.Carry
import Derived.ChangeSame
import Derived.Laws.StructEq
import Derived.Deep.LoopGhost
import Derived.Deep.CutRange
import Derived.Deep.Slices
import Derived.Deep.Fields
import Derived.Maps.AppendAt
namespace Go.Proofs.YtacmccijnkojeaaGreat
open Go Go.RowKit
theorem bR {B : Nat} {w : World} : Below B w w := Below.refl _ _
structure Fact where
 p : Value → World → Prop
 st : ∀ v w w', Below w.heap.size w w' → p v w → p v w'
def Fact.triv : Fact := ⟨fun _ _ => True, fun _ _ _ _ _ => trivial⟩
def look : List (Nat × Fact) → Nat → Fact
 | [], _ => Fact.triv
 | (k, f) :: rest, d => bif Nat.beq k d then f else look rest d
def factOf (FL : List (Nat × Fact)) (dst : Option Nat) (v : Value) (w : World) : Prop := match dst with
 | none => True
 | some d => (look FL d).p v w
def fillL (u : Nat → Value) : List Nat → Array Value → Array Value
 | [], t => t
 | d :: ds, t => fillL u ds (t.setIfInBounds d (u d))
def upd (u : Nat → Value) (d : Option Nat) (v : Value) (n : Nat) : Value := match d with
 | none => u n
 | some d => if n = d then v else u n
theorem fillL_size (u : Nat → Value) (ds : List Nat) : ∀ t : Array Value, (fillL u ds t).size = t.size := by
 induction ds with
 | nil => intro t; rfl
 | cons d ds ih => intro t; rw [fillL, ih]; simp
theorem fillL_get (u : Nat → Value) (ds : List Nat) : ∀ (t : Array Value) (n : Nat), (fillL u ds t)[n]? = if n < t.size then (if n ∈ ds then some (u n) else t[n]?) else none := by
 induction ds with
 | nil => intro t n; by_cases h : n < t.size <;> simp [fillL, h]
 | cons d ds ih =>
  intro t n
  rw [fillL, ih]
  by_cases h : n < t.size
  ·simp only [Array.size_setIfInBounds, h, if_true, List.mem_cons]
   by_cases h1 : n ∈ ds
   ·simp [h1]
   ·by_cases h2 : n = d
    ·subst h2; simp [h1, h]
    ·simp only [h1, h2, if_false, or_self]; rw [Array.getElem?_setIfInBounds_ne (Ne.symm h2)]
  ·simp [h]
theorem fillL_upd (u : Nat → Value) (ds : List Nat) (t : Array Value) (d : Nat) (v : Value) (hd : d ∈ ds) : (fillL u ds t).setIfInBounds d v = fillL (upd u (some d) v) ds t := by
 apply Array.ext_getElem?
 intro n
 rw [Array.getElem?_setIfInBounds, fillL_get, fillL_get, fillL_size]
 by_cases h : n < t.size
 ·by_cases h2 : d = n
  ·subst h2; simp [h, hd, upd]
  ·simp only [h, h2, if_true, if_false]
   by_cases h3 : n ∈ ds
   ·simp [h3, upd, Ne.symm h2]
   ·simp [h3]
 ·simp only [h, if_false]
  by_cases h2 : d = n
  ·subst h2; simp [h]
  ·simp [h2]
theorem fillL_self (ds : List Nat) (t : Array Value) : fillL (fun d => t.getD d undef) ds t = t := by
 apply Array.ext_getElem?
 intro n
 rw [fillL_get]
 by_cases h : n < t.size
 ·simp [h]
 ·simp [h]
def allWritten (ops : Array Oper) (ds : List Nat) : Bool := ds.all fun d => ops.any fun o => o.dst == some d
theorem filter_less {p q : Nat → Bool} {i : Nat} (hpi : p i = true) (hqi : q i = false) (h : ∀ j, q j = true → p j = true) : ∀ l : List Nat, i ∈ l → (l.filter q).length < (l.filter p).length := by
 have hle : ∀ l : List Nat, (l.filter q).length ≤ (l.filter p).length := by
  intro l
  induction l with
  | nil => simp
  | cons x l ih =>
   rw [List.filter_cons, List.filter_cons]
   by_cases hq : q x = true
   ·simp [hq, h x hq]; exact ih
   ·by_cases hp : p x = true <;> simp [hq, hp] <;> omega
 intro l hl
 induction l with
 | nil => cases hl
 | cons x l ih =>
  rw [List.filter_cons, List.filter_cons]
  rcases List.mem_cons.1 hl with rfl | hl
  ·simp [hpi, hqi]; have := hle l; omega
  ·have := ih hl
   by_cases hq : q x = true
   ·simp [hq, h x hq]; exact this
   ·by_cases hp : p x = true <;> simp [hq, hp] <;> omega
section
variable {P : Program} {ops : Array Oper} {Q : Exit → Act → World → Prop} {FL : List (Nat × Fact)} {J : World → Prop} {t0 : Array Value} {df : List Deferred} {ds : List Nat}
def Written (ops : Array Oper) (listed : Array Bool) (d : Nat) : Prop := ∃ j o', listed.getD j false = true ∧ ops[j]? = some o' ∧ o'.dst = some d
theorem Written.more {listed : Array Bool} {d i : Nat} (h : Written ops listed d) : Written ops (listed.setIfInBounds i true) d := by
 obtain ⟨j, o', h1, h2, h3⟩ := h
 exact ⟨j, o', getD_set_true h1, h2, h3⟩
theorem put_fill (u : Nat → Value) (o : Oper) (v : Value) (hd : ∀ d, o.dst = some d → d ∈ ds) : (⟨fillL u ds t0, df⟩ : Act).put o.dst v = ⟨fillL (upd u o.dst v) ds t0, df⟩ := by
 cases h : o.dst with
 | none => rfl
 | some d =>
  show Act.mk ((fillL u ds t0).setIfInBounds d v) df = _
  rw [fillL_upd _ _ _ _ _ (hd d h)]
theorem none_listed (n j : Nat) : (Array.replicate n false).getD j false = false := by
 by_cases h : j < n <;> simp [h]
end
open Go.RowKit
section
variable {k : IntKind} {t : TypeId} {w w' : World} {b o g B : Nat} {L : List Nat}
end
section
variable {k : IntKind} {t : TypeId} {w w' : World} {g B B' c : Nat} {A : Option Addr} {L : List Nat}
end
theorem below_alloc_new {w : World} (o : Obj) : Below w.heap.size w (w.alloc o) := (Below.refl _ _).alloc (Nat.le_refl _) _
theorem grown_below {B g : Nat} {a w w' : World} (h : Below B a w) (hg : w.grownBy w' (some g)) (hB : B ≤ g) (hs : B ≤ w.heap.size) : Below B a w' :=
 ⟨hg.os.trans h.os, hg.tape.trans h.tape, hg.output.trans h.output, Nat.le_trans h.size hg.size, fun i hi => (hg.block i (by omega) (by intro e; injection e; omega)).trans (h.block i hi)⟩
theorem below_drewN {B : Nat} {a w : World} (h : Below B a w) (n : Nat) : Below B a (w.drewN n) := ⟨h.os, h.tape, h.output, h.size, h.block⟩
theorem dc_drew {B : Nat} {a w : World} (h : Below B a w) : Below B a w.drew := ⟨h.os, h.tape, h.output, h.size, h.block⟩
theorem below_more {W w w' : World} (h : Below W.heap.size W w) (hb : Below w.heap.size w w') : Below W.heap.size W w' := h.trans (hb.mono h.size)
theorem dret_bool {a b : Bool} (h : a = b) : Ending.returned (.bool a) = .returned (.bool b) := by rw [h]
open Go Go.RowKit
def AS.NoInt (w : World) (b : Nat) : Prop := ∀ j k n, w.cell? ⟨b, j, none⟩ ≠ some (.int k n)
open AS (NoInt)
def Leaf (x : Value) : Prop := ∀ k n, x ≠ .int k n
structure Bx (t : TypeId) (w : World) (g : Nat) (vs : List Value) : Prop where
 blk : w.heap[g]? = some (.cells vs.toArray t (0, 0))
 leaf : ∀ v ∈ vs, Leaf v
section
variable {t : TypeId} {w w' : World} {g : Nat} {vs : List Value}
theorem Bx.lt (h : Bx t w g vs) : g < w.heap.size := by
 rcases Nat.lt_or_ge g w.heap.size with hlt | hge
 ·exact hlt
 ·have := h.blk; rw [Array.getElem?_eq_none hge] at this; cases this
theorem Bx.up (h : Bx t w g vs) (hb : Below w.heap.size w w') : Bx t w' g vs := ⟨(hb.block g h.lt).trans h.blk, h.leaf⟩
end
end Go.Proofs.YtacmccijnkojeaaGreat
namespace Go.Proofs.YtacmccijnkojeaaGreat.AS
open Go Go.RowKit
open Go.Proofs.YtacmccijnkojeaaGreat (fillL upd fillL_size fillL_get fillL_upd fillL_self filter_less none_listed put_fill)
structure Keep (w w' : World) : Prop where
 size : w.heap.size ≤ w'.heap.size
 blk : ∀ i, i < w.heap.size → (∃ j k n, w.cell? ⟨i, j, none⟩ = some (.int k n)) → w'.heap[i]? = w.heap[i]?
 box : ∀ (t : TypeId) (g : Nat) (vs : List Value), 2 ≤ vs.length → Bx t w g vs → ∃ vs' : List Value, vs'.length = vs.length ∧ Bx t w' g vs'
theorem Keep.ofBelow {w w' : World} (h : Below w.heap.size w w') : Keep w w' := ⟨h.size, fun i hi _ => h.block i hi, fun _ _ vs _ hb => ⟨vs, rfl, hb.up h⟩⟩
theorem Keep.cell {w w' : World} (h : Keep w w') {i j : Nat} (hi : i < w.heap.size) {j' : Nat} {k : IntKind} {n : Int} (hc : w.cell? ⟨i, j', none⟩ = some (.int k n)) : w'.cell? ⟨i, j, none⟩ = w.cell? ⟨i, j, none⟩ :=
 World.cell?_of_block (h.blk i hi ⟨j', k, n, hc⟩)
structure Fact where
 p : Value → World → Prop
 st : ∀ v w w', Keep w w' → p v w → p v w'
def Fact.triv : Fact := ⟨fun _ _ => True, fun _ _ _ _ _ => trivial⟩
def Fact.is (x : Value) : Fact := ⟨fun v _ => v = x, fun _ _ _ _ h => h⟩
def look : List (Nat × Fact) → Nat → Fact
 | [], _ => Fact.triv
 | (k, f) :: rest, d => bif Nat.beq k d then f else look rest d
def temps (FL : List (Nat × Fact)) : List Nat := FL.map (·.1)
def factOf (FL : List (Nat × Fact)) (dst : Option Nat) (v : Value) (w : World) : Prop := match dst with
 | none => True
 | some d => (look FL d).p v w
def Facts (FL : List (Nat × Fact)) (u : Nat → Value) (w : World) : List Nat → Prop
 | [] => True
 | d :: ds => (look FL d).p (u d) w ∧ Facts FL u w ds
theorem facts_mk {FL : List (Nat × Fact)} {u : Nat → Value} {w : World} {ds : List Nat} (h : ∀ d ∈ ds, (look FL d).p (u d) w) : Facts FL u w ds := by
 induction ds with
 | nil => trivial
 | cons d ds ih => exact ⟨h d (List.mem_cons_self ..), ih fun e he => h e (List.mem_cons_of_mem _ he)⟩
theorem facts_get {FL : List (Nat × Fact)} {u : Nat → Value} {w : World} {ds : List Nat} (h : Facts FL u w ds) (d : Nat) (hd : d ∈ ds) : (look FL d).p (u d) w := by
 induction ds with
 | nil => cases hd
 | cons e ds ih =>
  rcases List.mem_cons.1 hd with rfl | hd
  ·exact h.1
  ·exact ih h.2 hd
def edgesOk (ops : Array Oper) : Bool := (List.range ops.size).all fun i => match ops[i]? with
 | none => true
 | some o => o.after.all fun e => !Region.binds .any e || decide (e.on < i)
def needsOk (ops : Array Oper) (pt : List (List Nat)) (ds : List Nat) : Bool :=
 (List.range ops.size).all fun i => match ops[i]? with
  | none => true
  | some o => (match o.dst with | some d => ds.contains d | none => true) &&
   (pt.getD i []).all fun d => o.after.any fun e => Region.binds .any e && ((match ops[e.on]? with | some o' => o'.dst == some d | none => false) || (pt.getD e.on []).contains d)
def onceOk (ops : Array Oper) : Bool := (List.range ops.size).all fun i => (List.range ops.size).all fun j => match ops[i]?, ops[j]? with
 | some o, some o' => Nat.beq i j || (match o.dst, o'.dst with | some d, some d' => !Nat.beq d d' | _, _ => true)
 | _, _ => true
def storesOk (ops : Array Oper) (pt : List (List Nat)) (st : List Nat) (js : List (List Nat)) : Bool :=
 (List.range st.length).all fun m => decide (st.getD m 0 < ops.size) && (match ops[st.getD m 0]? with | some o => o.dst == none | none => false) &&
  (Nat.beq m 0 || Region.waitsFor .any ops (st.getD m 0) (st.getD (m - 1) 0)) && (js.getD (m + 1) []).all fun d => (pt.getD (st.getD m 0) []).contains d || (js.getD m []).contains d
def waits2 (ops : Array Oper) (s i : Nat) : Bool := Region.waitsFor .any ops s i || (List.range ops.size).any fun j => Region.waitsFor .any ops s j && Region.waitsFor .any ops j i
def limOk (ops : Array Oper) (st lm : List Nat) : Bool :=
 (List.range ops.size).all fun i => Nat.beq (lm.getD i st.length) st.length || waits2 ops (st.getD (lm.getD i st.length) ops.size) i
def allWritten (ops : Array Oper) (ds : List Nat) : Bool := ds.all fun d => ops.any fun o => o.dst == some d
def allocsOk (ops : Array Oper) (al st : List Nat) : Bool := al.all fun d => st.all fun s => (List.range ops.size).any fun i => (match ops[i]? with | some o => o.dst == some d | none => false) && waits2 ops s i
def chk (al : List Nat) (ops : Array Oper) (pt : List (List Nat)) (ds st : List Nat) (js : List (List Nat)) (lm : List Nat) : Bool :=
 allocsOk ops al st && al.all ds.contains && edgesOk ops && needsOk ops pt ds && onceOk ops && storesOk ops pt st js && limOk ops st lm && allWritten ops ds && (js.getD 0 []).isEmpty
section
variable {P : Program} {ops : Array Oper} {Q : Exit → Act → World → Prop} {FL : List (Nat × Fact)} {J : Nat → List Value → World → Prop} {t0 : Array Value} {df : List Deferred} {ds : List Nat}
 {st lm al : List Nat} {js : List (List Nat)} {pt : List (List Nat)}
def aOk (al : List Nat) (dst : Option Nat) (v : Value) (w w' : World) : Prop := match dst with
 | some d => bif al.contains d then v = .pointer (some ⟨w.heap.size, 0, none⟩) ∧ w.heap.size < w'.heap.size else True
 | none => True
def Apart (al : List Nat) (u : Nat → Value) : Prop := ∀ d ∈ al, ∀ d' ∈ al, d ≠ d' → u d ≠ u d'
def StepOk (al : List Nat) (P : Program) (ops : Array Oper) (Q : Exit → Act → World → Prop) (FL : List (Nat × Fact)) (J : Nat → List Value → World → Prop) (js : List (List Nat)) (fr : (Nat → Value) → Array Value) (df : List Deferred) (o : Oper) (need : List Nat) (lim : Nat) : Prop :=
 ∀ (k : Nat) (u : Nat → Value) (w : World), k ≤ lim → J k ((js.getD k []).map u) w → Facts FL u w need → ∀ K : Act → World → Prop, Shut (∀ v w', Below w.heap.size w w' → factOf FL o.dst v w' → aOk al o.dst v w w' → K ((⟨fr u, df⟩ : Act).put o.dst v) w') →
  if Region.wanted o (yielded ops (fr u)) = true then Oper.wp P o ⟨fr u, df⟩ w K Q else K ((⟨fr u, df⟩ : Act).put o.dst undef) w
def StoreOk (al : List Nat) (P : Program) (ops : Array Oper) (Q : Exit → Act → World → Prop) (FL : List (Nat × Fact)) (J : Nat → List Value → World → Prop) (js : List (List Nat)) (fr : (Nat → Value) → Array Value) (df : List Deferred) (o : Oper) (need : List Nat) (k : Nat) : Prop :=
 ∀ (u : Nat → Value) (w : World), J k ((js.getD k []).map u) w → Apart al u → Facts FL u w need → ∀ K : Act → World → Prop, Shut (∀ v w', J (k + 1) ((js.getD (k + 1) []).map u) w' → Keep w w' → K ((⟨fr u, df⟩ : Act).put o.dst v) w') →
  if Region.wanted o (yielded ops (fr u)) = true then Oper.wp P o ⟨fr u, df⟩ w K Q else K ((⟨fr u, df⟩ : Act).put o.dst undef) w
def StepsOk (al : List Nat) (P : Program) (ops : Array Oper) (Q : Exit → Act → World → Prop) (FL : List (Nat × Fact)) (J : Nat → List Value → World → Prop) (js : List (List Nat)) (fr : (Nat → Value) → Array Value) (df : List Deferred) (pt : List (List Nat)) (st lm : List Nat) : List Oper → Nat → Prop
 | [], _ => True
 | o :: rest, i => (match st.idxOf? i with
   | some k => StoreOk al P ops Q FL J js fr df o (pt.getD i []) k
   | none => StepOk al P ops Q FL J js fr df o (pt.getD i []) (lm.getD i st.length)) ∧ StepsOk al P ops Q FL J js fr df pt st lm rest (i + 1)
theorem StepsOk.nil {fr : (Nat → Value) → Array Value} {i : Nat} : StepsOk al P ops Q FL J js fr df pt st lm [] i := trivial
theorem sc {fr : (Nat → Value) → Array Value} {o : Oper} {rest : List Oper} {i : Nat} {need : List Nat} {lim : Nat} (h0 : st.idxOf? i = none) (h1 : pt.getD i [] = need) (h2 : lm.getD i st.length = lim)
  (h : StepOk al P ops Q FL J js fr df o need lim) (hs : StepsOk al P ops Q FL J js fr df pt st lm rest (i + 1)) : StepsOk al P ops Q FL J js fr df pt st lm (o :: rest) i := ⟨by rw [h0, h1, h2]; exact h, hs⟩
theorem steps_at {fr : (Nat → Value) → Array Value} : ∀ (l : List Oper) (i0 : Nat), StepsOk al P ops Q FL J js fr df pt st lm l i0 → ∀ i o, l[i]? = some o → (match st.idxOf? (i0 + i) with
      | some k => StoreOk al P ops Q FL J js fr df o (pt.getD (i0 + i) []) k
      | none => StepOk al P ops Q FL J js fr df o (pt.getD (i0 + i) []) (lm.getD (i0 + i) st.length)) := by
  intro l
  induction l with
  | nil => intro i0 _ i o h; simp at h
  | cons x l ih =>
    intro i0 hs i o h
    cases i with
    | zero => simp at h; subst h; exact hs.1
    | succ i =>
      have := ih (i0 + 1) hs.2 i o (by simpa using h)
      rwa [show i0 + 1 + i = i0 + (i + 1) by omega] at this
def Written (ops : Array Oper) (listed : Array Bool) (d : Nat) : Prop := ∃ j o', listed.getD j false = true ∧ ops[j]? = some o' ∧ o'.dst = some d
structure Inv (al : List Nat) (ops : Array Oper) (FL : List (Nat × Fact)) (J : Nat → List Value → World → Prop) (js : List (List Nat)) (t0 : Array Value) (df : List Deferred) (ds : List Nat) (pt : List (List Nat)) (st : List Nat) (listed : Array Bool) (a : Act) (w : World) : Prop where
 fr : ∃ k u, a = ⟨fillL u ds t0, df⟩ ∧ (∀ d, Written ops listed d → (look FL d).p (u d) w) ∧ J k ((js.getD k []).map u) w ∧ k ≤ st.length ∧ (∀ m, m < k → listed.getD (st.getD m 0) false = true) ∧
  (∀ m, k ≤ m → m < st.length → listed.getD (st.getD m 0) false = false) ∧ (∀ d ∈ js.getD k [], Written ops listed d) ∧ (∀ d ∈ al, Written ops listed d → ∃ g, u d = .pointer (some ⟨g, 0, none⟩) ∧ g < w.heap.size) ∧
  (∀ d ∈ al, ∀ d' ∈ al, d ≠ d' → Written ops listed d → Written ops listed d' → u d ≠ u d')
 cl : ∀ i, listed.getD i false = true → ∀ d ∈ pt.getD i [], Written ops listed d
 cs : ∀ j oj, ops[j]? = some oj → listed.getD j false = true → ∀ e ∈ oj.after, Region.binds .any e = true → listed.getD e.on false = true
 sz : listed.size = ops.size
theorem Written.more {listed : Array Bool} {d i : Nat} (h : Written ops listed d) : Written ops (listed.setIfInBounds i true) d := by
 obtain ⟨j, o', h1, h2, h3⟩ := h
 exact ⟨j, o', getD_set_true h1, h2, h3⟩
theorem getD_flag {listed : Array Bool} {i : Nat} (h : i < listed.size) : listed.getD i true = listed.getD i false := by simp [h]
structure Chk (al : List Nat) (ops : Array Oper) (pt : List (List Nat)) (ds st : List Nat) (js : List (List Nat)) (lm : List Nat) : Prop where
 edge : ∀ (i : Nat) (o : Oper), ops[i]? = some o → ∀ e ∈ o.after, Region.binds .any e = true → e.on < i
 dst : ∀ (i : Nat) (o : Oper), ops[i]? = some o → ∀ d, o.dst = some d → d ∈ ds
 need : ∀ (i : Nat) (o : Oper), ops[i]? = some o → ∀ d ∈ pt.getD i [], ∃ e ∈ o.after, Region.binds .any e = true ∧ ((∃ o' : Oper, ops[e.on]? = some o' ∧ o'.dst = some d) ∨ d ∈ pt.getD e.on [])
 once : ∀ (i j : Nat) (o o' : Oper) (d : Nat), ops[i]? = some o → ops[j]? = some o' → o.dst = some d → o'.dst = some d → i = j
 slt : ∀ m, m < st.length → st.getD m 0 < ops.size
 sdst : ∀ m, m < st.length → ∀ o : Oper, ops[st.getD m 0]? = some o → o.dst = none
 schain : ∀ m, 0 < m → m < st.length → Region.waitsFor .any ops (st.getD m 0) (st.getD (m - 1) 0) = true
 sjs : ∀ m, m < st.length → ∀ d ∈ js.getD (m + 1) [], d ∈ pt.getD (st.getD m 0) [] ∨ d ∈ js.getD m []
 lim : ∀ i, i < ops.size → lm.getD i st.length = st.length ∨ waits2 ops (st.getD (lm.getD i st.length) ops.size) i = true
 wr : ∀ d ∈ ds, ∃ (i : Nat) (o : Oper), ops[i]? = some o ∧ o.dst = some d
 js0 : js.getD 0 [] = []
 alw : ∀ d ∈ al, ∀ m, m < st.length → ∃ (i : Nat) (o : Oper), ops[i]? = some o ∧ o.dst = some d ∧ waits2 ops (st.getD m 0) i = true
 ald : ∀ d ∈ al, d ∈ ds
theorem chk_spec (h : chk al ops pt ds st js lm = true) : Chk al ops pt ds st js lm := by
 unfold chk at h
 simp only [Bool.and_eq_true] at h
 obtain ⟨⟨⟨⟨⟨⟨⟨⟨h8, h9⟩, h1⟩, h2⟩, h3⟩, h4⟩, h5⟩, h6⟩, h7⟩ := h
 have lt : ∀ (i : Nat) (o : Oper), ops[i]? = some o → i ∈ List.range ops.size := fun i o ho => List.mem_range.2 (Array.getElem?_eq_some_iff.1 ho).1
 constructor
 ·intro i o ho e he hb
  have h := List.all_eq_true.1 h1 i (lt i o ho)
  rw [ho] at h
  dsimp only at h
  rw [Array.all_eq_true_iff_forall_mem] at h
  have h := h e he
  rw [hb] at h
  simpa using h
 ·intro i o ho d hd
  have h := List.all_eq_true.1 h2 i (lt i o ho)
  rw [ho] at h
  dsimp only at h
  rw [hd] at h
  simp only [Bool.and_eq_true] at h
  simpa using h.1
 ·intro i o ho d hd
  have h := List.all_eq_true.1 h2 i (lt i o ho)
  rw [ho] at h
  simp only [Bool.and_eq_true] at h
  have h := List.all_eq_true.1 h.2 d hd
  rw [Array.any_eq_true] at h
  obtain ⟨k, hk, h⟩ := h
  rw [Bool.and_eq_true, Bool.or_eq_true] at h
  refine ⟨o.after[k], Array.getElem_mem _, h.1, ?_⟩
  rcases h.2 with h4 | h4
  ·left
   cases h5 : ops[(o.after[k]).on]? with
   | none => rw [h5] at h4; cases h4
   | some o' => rw [h5] at h4; exact ⟨o', rfl, by simpa using h4⟩
  ·right; simpa using h4
 ·intro i j o o' d ho ho' hd hd'
  have h := List.all_eq_true.1 (List.all_eq_true.1 h3 i (lt i o ho)) j (lt j o' ho')
  rw [ho, ho'] at h
  dsimp only at h
  rw [hd, hd'] at h
  simpa using h
 ·intro m hm
  have h := List.all_eq_true.1 h4 m (List.mem_range.2 hm)
  simp only [Bool.and_eq_true, decide_eq_true_eq] at h
  exact h.1.1.1
 ·intro m hm o ho
  have h := List.all_eq_true.1 h4 m (List.mem_range.2 hm)
  simp only [Bool.and_eq_true, decide_eq_true_eq] at h
  have h := h.1.1.2
  rw [ho] at h
  simpa using h
 ·intro m h0 hm
  have h := List.all_eq_true.1 h4 m (List.mem_range.2 hm)
  simp only [Bool.and_eq_true, decide_eq_true_eq, Bool.or_eq_true, Nat.beq_eq] at h
  rcases h.1.2 with h | h
  ·omega
  ·exact h
 ·intro m hm d hd
  have h := List.all_eq_true.1 h4 m (List.mem_range.2 hm)
  simp only [Bool.and_eq_true] at h
  have h := List.all_eq_true.1 h.2 d hd
  simpa using h
 ·intro i hi
  have h := List.all_eq_true.1 h5 i (List.mem_range.2 hi)
  simp only [Bool.or_eq_true, Nat.beq_eq] at h
  exact h
 ·intro d hd
  have h := List.all_eq_true.1 h6 d hd
  rw [Array.any_eq_true] at h
  obtain ⟨k, hk, h⟩ := h
  exact ⟨k, ops[k], by simp [hk], by simpa using h⟩
 ·simpa using h7
 ·intro d hd m hm
  have h := List.all_eq_true.1 (List.all_eq_true.1 h8 d hd) (st.getD m 0) (by simp [hm])
  obtain ⟨i, hi, h⟩ := List.any_eq_true.1 h
  rw [Bool.and_eq_true] at h
  cases ho : ops[i]? with
  | none => rw [ho] at h; cases h.1
  | some o => rw [ho] at h; exact ⟨i, o, ho, by simpa using h.1, h.2⟩
 ·intro d hd
  have h := List.all_eq_true.1 h9 d hd
  simpa using h
theorem inv_step (hc : Chk al ops pt ds st js lm) (hst : ∀ k l w w', Below w.heap.size w w' → J k l w → J k l w') (hs : StepsOk al P ops Q FL J js (fun u => fillL u ds t0) df pt st lm ops.toList 0) {listed : Array Bool} {a : Act} {w : World}
    (hI : Inv al ops FL J js t0 df ds pt st listed a w) {i : Nat} (hi : i ∈ Region.ready .any ops listed) :
    wpOp P ops Q i (Inv al ops FL J js t0 df ds pt st (listed.setIfInBounds i true)) a w := by
  obtain ⟨h0, o, ho, hall⟩ := mem_ready.1 hi
  have hlt : i < ops.size := (Array.getElem?_eq_some_iff.1 ho).1
  have hil : i < listed.size := by rw [hI.sz]; exact hlt
  have hun : listed.getD i false = false := by rw [← getD_flag hil]; exact h0
  obtain ⟨k, u, rfl, hfac, hJ, hk, hk1, hk2, hk3, hk4, hk5⟩ := hI.fr
  have hneed : ∀ d ∈ pt.getD i [], Written ops listed d := by
    intro d hd
    obtain ⟨e, he, hb, h1⟩ := hc.need i o ho d hd
    have h2 := hall e he hb
    rcases h1 with ⟨o', h3, h4⟩ | h3
    · exact ⟨e.on, o', h2, h3, h4⟩
    · exact hI.cl e.on h2 d h3
  have hstep := steps_at _ _ hs i o (by simpa using ho)
  rw [Nat.zero_add] at hstep
  have hcs : ∀ j oj, ops[j]? = some oj → (listed.setIfInBounds i true).getD j false = true → ∀ e ∈ oj.after, Region.binds .any e = true → (listed.setIfInBounds i true).getD e.on false = true := by
    intro j oj hj hl e he hb
    by_cases hij : i = j
    · subst hij
      have : oj = o := Option.some.inj (hj.symm.trans ho)
      subst this
      exact getD_set_true (hall e he hb)
    · rw [getD_set_ne false hij] at hl
      exact getD_set_true (hI.cs j oj hj hl e he hb)
  have hcl : ∀ j, (listed.setIfInBounds i true).getD j false = true → ∀ d ∈ pt.getD j [], Written ops (listed.setIfInBounds i true) d := by
    intro j hj d hd
    by_cases hij : i = j
    · subst hij; exact (hneed d hd).more
    · rw [getD_set_ne false hij] at hj
      exact (hI.cl j hj d hd).more
  have hwait : ∀ m, m < k → ∀ j, Region.waitsFor .any ops (st.getD m 0) j = true → listed.getD j false = true := by
    intro m hm j hw
    obtain ⟨oj, hoj, e, he, hb, hon⟩ := Region.waitsFor_spec hw
    rw [← hon]
    exact hI.cs _ oj hoj (hk1 m hm) e he hb
  have hwait2 : ∀ m, m < k → ∀ j, waits2 ops (st.getD m 0) j = true → listed.getD j false = true := by
    intro m hm j hw
    unfold waits2 at hw
    rw [Bool.or_eq_true] at hw
    rcases hw with hw | hw
    · exact hwait m hm j hw
    · obtain ⟨x, -, hx⟩ := List.any_eq_true.1 hw
      rw [Bool.and_eq_true] at hx
      obtain ⟨oj, hoj, e, he, hb, hon⟩ := Region.waitsFor_spec hx.2
      rw [← hon]
      exact hI.cs _ oj hoj (hwait m hm x hx.1) e he hb
  cases hsi : st.idxOf? i with
  | none =>
    rw [hsi] at hstep
    have hns : ∀ m, m < st.length → st.getD m 0 ≠ i := by
      intro m hm e
      have h1 : i ∈ st := by rw [← e]; simp [hm]
      have h2 := List.idxOf?_eq_none_iff.1 hsi
      exact h2 h1
    have hlim : k ≤ lm.getD i st.length := by
      rcases hc.lim i hlt with h1 | h1
      · omega
      · rcases Nat.lt_or_ge (lm.getD i st.length) k with h2 | h2
        · exfalso
          have h3 := hwait2 _ h2 i (by
            have e : st.getD (lm.getD i st.length) ops.size = st.getD (lm.getD i st.length) 0 := by
              have : lm.getD i st.length < st.length := by omega
              generalize lm.getD i st.length = z at *
              simp [this]
            rw [← e]; exact h1)
          rw [hun] at h3; cases h3
        · exact h2
    refine wpOp_step ho (fun K' hK => hstep k u w hlim hJ (facts_mk fun d hd => hfac d (hneed d hd)) K' ?_)
    intro v w' hb hf hao
    have hwi : ∀ d, Written ops (listed.setIfInBounds i true) d → o.dst = some d ∨ Written ops listed d := by
      rintro d ⟨j, o', h1, h2, h3⟩
      by_cases hij : i = j
      · subst hij
        rw [ho] at h2
        injection h2 with h2
        subst h2
        exact .inl h3
      · rw [getD_set_ne false hij] at h1
        exact .inr ⟨j, o', h1, h2, h3⟩
    have hnw : ∀ d, o.dst = some d → ¬ Written ops listed d := by
      rintro d hd ⟨j, o', h1, h2, h3⟩
      have := hc.once i j o o' d ho h2 hd h3
      subst this
      rw [hun] at h1; cases h1
    have hne : ∀ d, o.dst ≠ some d → upd u o.dst v d = u d := by
      intro d hd
      cases h : o.dst with
      | none => rfl
      | some d' => rw [h] at hd; simp only [upd]; rw [if_neg (fun h => hd (by rw [h]))]
    have hal : ∀ d ∈ al, o.dst = some d → v = .pointer (some ⟨w.heap.size, 0, none⟩) ∧ w.heap.size < w'.heap.size := by
      intro d hd h
      unfold aOk at hao
      rw [h] at hao
      dsimp only at hao
      rw [show al.contains d = true by simpa using hd] at hao
      exact hao
    refine hK _ _ ⟨⟨k, upd u o.dst v, put_fill u o v (hc.dst i o ho), ?_, ?_, hk, fun m hm => getD_set_true (hk1 m hm), fun m hm hm' => ?_, fun d hd => (hk3 d hd).more, fun d hd hw => ?_, fun d hd d' hd' hdd hw hw' => ?_⟩, hcl, hcs, by simpa using hI.sz⟩
    · rintro d ⟨j, o', h1, h2, h3⟩
      by_cases hd : o.dst = some d
      · rw [hd] at hf ⊢
        have e : upd u (some d) v d = v := by simp [upd]
        rw [e]; exact hf
      · have hw : Written ops listed d := by
          by_cases hij : i = j
          · subst hij
            rw [ho] at h2
            injection h2 with h2
            subst h2
            exact absurd h3 hd
          · rw [getD_set_ne false hij] at h1
            exact ⟨j, o', h1, h2, h3⟩
        have e : upd u o.dst v d = u d := by
          cases h : o.dst with
          | none => rfl
          | some d' => rw [h] at hd; simp only [upd]; rw [if_neg (fun h => hd (by rw [h]))]
        rw [e]
        exact (look FL d).st _ _ _ (Keep.ofBelow hb) (hfac d hw)
    · have e : (js.getD k []).map (upd u o.dst v) = (js.getD k []).map u := by
        apply List.map_congr_left
        intro d hd
        cases h : o.dst with
        | none => rfl
        | some d' =>
          simp only [upd]
          rw [if_neg]
          rintro rfl
          obtain ⟨j, o', h1, h2, h3⟩ := hk3 d hd
          have := hc.once i j o o' d ho h2 h h3
          subst this
          rw [hun] at h1; cases h1
      rw [e]
      exact hst _ _ _ _ hb hJ
    · rw [getD_set_ne false (Ne.symm (hns m hm'))]; exact hk2 m hm hm'
    · by_cases h : o.dst = some d
      · obtain ⟨h1, h2⟩ := hal d hd h
        exact ⟨w.heap.size, by rw [h]; simp [upd, h1], h2⟩
      · rcases hwi d hw with h1 | h1
        · exact absurd h1 h
        · obtain ⟨g, h2, h3⟩ := hk4 d hd h1
          exact ⟨g, by rw [hne d h]; exact h2, Nat.lt_of_lt_of_le h3 hb.size⟩
    · by_cases h : o.dst = some d
      · have h' : o.dst ≠ some d' := fun h2 => hdd (by rw [h] at h2; injection h2)
        rcases hwi d' hw' with h1 | h1
        · exact absurd h1 h'
        · obtain ⟨g, h2, h3⟩ := hk4 d' hd' h1
          rw [hne d' h', h2, h]
          simp only [upd, if_pos]
          rw [(hal d hd h).1]
          intro he
          simp at he <;> omega
      · rcases hwi d hw with h1 | h1
        · exact absurd h1 h
        · by_cases h' : o.dst = some d'
          · obtain ⟨g, h2, h3⟩ := hk4 d hd h1
            rw [hne d h, h2, h']
            simp only [upd, if_pos]
            rw [(hal d' hd' h').1]
            intro he
            simp at he <;> omega
          · rcases hwi d' hw' with h2 | h2
            · exact absurd h2 h'
            · rw [hne d h, hne d' h']; exact hk5 d hd d' hd' hdd h1 h2
  | some m =>
    rw [hsi] at hstep
    obtain ⟨hm, hmi, -⟩ := List.idxOf?_eq_some_iff.1 hsi
    have hmi' : st.getD m 0 = i := by simp [hm]; exact hmi
    have hmk : m = k := by
      rcases Nat.lt_trichotomy m k with h1 | h1 | h1
      · have := hk1 m h1; rw [hmi', hun] at this; cases this
      · exact h1
      · exfalso
        have h2 := hc.schain m (by omega) hm
        rw [hmi'] at h2
        obtain ⟨oj, hoj, e, he, hb, hon⟩ := Region.waitsFor_spec h2
        have : oj = o := Option.some.inj (hoj.symm.trans ho)
        subst this
        have h3 := hall e he hb
        rw [hon, hk2 (m - 1) (by omega) (by omega)] at h3
        cases h3
    subst hmk
    have hdn : o.dst = none := hc.sdst m hm o (by rw [hmi']; exact ho)
    have hwal : ∀ d ∈ al, Written ops listed d := by
      intro d hd
      obtain ⟨j, o', h1, h2, h3⟩ := hc.alw d hd m hm
      rw [hmi'] at h3
      refine ⟨j, o', ?_, h1, h2⟩
      unfold waits2 at h3
      rw [Bool.or_eq_true] at h3
      rcases h3 with h3 | h3
      · obtain ⟨oj, hoj, e, he, hb, hon⟩ := Region.waitsFor_spec h3
        have : oj = o := Option.some.inj (hoj.symm.trans ho)
        subst this
        rw [← hon]; exact hall e he hb
      · obtain ⟨x, -, hx⟩ := List.any_eq_true.1 h3
        rw [Bool.and_eq_true] at hx
        obtain ⟨oj, hoj, e, he, hb, hon⟩ := Region.waitsFor_spec hx.1
        have : oj = o := Option.some.inj (hoj.symm.trans ho)
        subst this
        have h4 := hall e he hb
        rw [hon] at h4
        obtain ⟨oj2, hoj2, e2, he2, hb2, hon2⟩ := Region.waitsFor_spec hx.2
        rw [← hon2]
        exact hI.cs _ oj2 hoj2 h4 e2 he2 hb2
    refine wpOp_step ho (fun K' hK => hstep u w hJ (fun d hd d' hd' hdd => hk5 d hd d' hd' hdd (hwal d hd) (hwal d' hd')) (facts_mk fun d hd => hfac d (hneed d hd)) K' ?_)
    intro v w' hJ' hb
    refine hK _ _ ⟨⟨m + 1, u, by rw [hdn]; rfl, ?_, hJ', hm, fun j hj => ?_, fun j hj hj' => ?_, fun d hd => ?_, fun d hd hw => ?_, fun d hd d' hd' hdd hw hw' => hk5 d hd d' hd' hdd (hwal d hd) (hwal d' hd')⟩, hcl, hcs, by simpa using hI.sz⟩
    · rintro d ⟨j, o', h1, h2, h3⟩
      have hij : i ≠ j := by
        rintro rfl
        rw [ho] at h2
        injection h2 with h2
        subst h2
        rw [hdn] at h3; cases h3
      rw [getD_set_ne false hij] at h1
      exact (look FL d).st _ _ _ hb (hfac d ⟨j, o', h1, h2, h3⟩)
    · by_cases h1 : j = m
      · subst h1; rw [hmi']; simp [hil]
      · exact getD_set_true (hk1 j (by omega))
    · have h1 := hk2 j (by omega) hj'
      by_cases h2 : st.getD j 0 = i
      · exfalso
        have h3 : ∀ n, m ≤ n → n < st.length → i ≤ st.getD n 0 ∧ (m < n → i < st.getD n 0) := by
          intro n
          induction n with
          | zero => intro h4 h5; exact ⟨by have : m = 0 := by omega
                                           subst this; rw [hmi']; exact Nat.le_refl _, fun h => by omega⟩
          | succ n ih =>
            intro h4 h5
            by_cases h6 : m = n + 1
            · subst h6; exact ⟨by rw [hmi']; exact Nat.le_refl _, fun h => by omega⟩
            · have h7 := ih (by omega) (by omega)
              have h8 := hc.schain (n + 1) (by omega) h5
              obtain ⟨oj, hoj, e, he, hb', hon⟩ := Region.waitsFor_spec h8
              have h9 := hc.edge _ oj hoj e he hb'
              rw [hon, Nat.add_sub_cancel] at h9
              exact ⟨by omega, fun _ => by omega⟩
        have := (h3 j (by omega) hj').2 (by omega)
        omega
      · rw [getD_set_ne false (Ne.symm h2)]; exact h1
    · rcases hc.sjs m hm d hd with h1 | h1
      · rw [hmi'] at h1; exact (hneed d h1).more
      · exact (hk3 d h1).more
    · obtain ⟨g, h1, h2⟩ := hk4 d hd (hwal d hd)
      exact ⟨g, h1, Nat.lt_of_lt_of_le h2 hb.size⟩
theorem ready_nil_all (hc : Chk al ops pt ds st js lm) {listed : Array Bool} (hsz : listed.size = ops.size) (hr : Region.ready .any ops listed = []) : ∀ n i, i < n → i < ops.size → listed.getD i false = true := by
 intro n
 induction n with
 | zero => intro i h; omega
 | succ n ih =>
  intro i hin hi
  have hil : i < listed.size := by omega
  cases hv : listed.getD i false with
  | true => rfl
  | false =>
   exfalso
   have ho : ops[i]? = some ops[i] := by simp [hi]
   have : i ∈ Region.ready .any ops listed := by
    rw [mem_ready]
    refine ⟨by simp [hil] at hv ⊢; exact hv, _, ho, fun e he hb => ?_⟩
    have h1 := hc.edge i _ ho e he hb
    exact ih e.on (by omega) (by omega)
   rw [hr] at this
   cases this
theorem wpAny_inv (hc : Chk al ops pt ds st js lm) (hst : ∀ k l w w', Below w.heap.size w w' → J k l w → J k l w') (hs : StepsOk al P ops Q FL J js (fun u => fillL u ds t0) df pt st lm ops.toList 0)
  (hend : ∀ u w, J st.length ((js.getD st.length []).map u) w → Facts FL u w ds → Q .normal ⟨fillL u ds t0, df⟩ w) :
  ∀ (fuel : Nat) (listed : Array Bool) (a : Act) (w : World), ((List.range ops.size).filter fun j => !listed.getD j true).length ≤ fuel → Inv al ops FL J js t0 df ds pt st listed a w → wpAny P .any ops Q fuel listed a w := by
 have hfin : ∀ (listed : Array Bool) (a : Act) (w : World), Inv al ops FL J js t0 df ds pt st listed a w → Region.ready .any ops listed = [] → Q .normal a w := by
  intro listed a w hI hr
  obtain ⟨k, u, rfl, hfac, hJ, hk, hk1, hk2, hk3, hk4, hk5⟩ := hI.fr
  have hall := ready_nil_all hc hI.sz hr
  have hkl : k = st.length := by
   rcases Nat.lt_or_ge k st.length with h | h
   ·have h1 := hk2 k (Nat.le_refl _) h
    rw [hall (st.getD k 0 + 1) _ (by omega) (hc.slt k h)] at h1
    cases h1
   ·omega
  subst hkl
  refine hend u w hJ (facts_mk fun d hd => hfac d ?_)
  obtain ⟨i, o, h1, h2⟩ := hc.wr d hd
  exact ⟨i, o, hall (i + 1) i (by omega) (Array.getElem?_eq_some_iff.1 h1).1, h1, h2⟩
 intro fuel
 induction fuel with
 | zero =>
  intro listed a w hcnt hI
  have hr : Region.ready .any ops listed = [] := by
   rw [List.eq_nil_iff_forall_not_mem]
   intro j hj
   obtain ⟨h0, o, ho, -⟩ := mem_ready.1 hj
   have hlt : j < ops.size := (Array.getElem?_eq_some_iff.1 ho).1
   have hm : j ∈ (List.range ops.size).filter fun j => !listed.getD j true := by
    rw [List.mem_filter]
    exact ⟨List.mem_range.2 hlt, by rw [h0]; rfl⟩
   have := List.length_pos_of_mem hm
   omega
  exact ⟨hr, hfin _ _ _ hI hr⟩
 | succ fuel ih =>
  intro listed a w hcnt hI
  refine ⟨fun hr => hfin _ _ _ hI hr, fun i hi => ?_⟩
  obtain ⟨h0, o, ho, -⟩ := mem_ready.1 hi
  have hlt : i < ops.size := (Array.getElem?_eq_some_iff.1 ho).1
  refine wpOp_mono (fun a' w' hI' => ih _ a' w' ?_ hI') (inv_step hc hst hs hI hi)
  have := filter_less (p := fun j => !listed.getD j true) (q := fun j => !(listed.setIfInBounds i true).getD j true) (i := i) (by simp only [h0]; rfl) (by
   have hil : i < listed.size := by rw [hI.sz]; exact hlt
   simp [hil]) (fun j hj => by
   by_cases hij : i = j
   ·subst hij
    exfalso
    have hil : i < listed.size := by rw [hI.sz]; exact hlt
    simp [hil] at hj
   ·rw [getD_set_ne true hij] at hj; exact hj) (List.range ops.size) (List.mem_range.2 hlt)
  omega
theorem region_facts {id : Nat} {w : World} {opl : List Oper} (FL : List (Nat × Fact)) (J : Nat → List Value → World → Prop) (pt : List (List Nat)) (st : List Nat) (js : List (List Nat)) (lm : List Nat) (al : List Nat) {fr : (Nat → Value) → Array Value} (hfr : ∀ u, fillL u (temps FL) t0 = fr u)
  (hm : P.follows .mixedOrders = true) (hchk : chk al opl.toArray pt (temps FL) st js lm = true) (hst : ∀ k l w w', Below w.heap.size w w' → J k l w → J k l w') (hJ : J 0 [] w.drew)
  (hs : StepsOk al P opl.toArray Q FL J js fr df pt st lm opl 0)
  (hend : ∀ u w, J st.length ((js.getD st.length []).map u) w → Facts FL u w (temps FL) → Q .normal ⟨fr u, df⟩ w) : (Code.region id opl.toArray true).wp P Q ⟨t0, df⟩ w := by
 obtain rfl : (fun u => fillL u (temps FL) t0) = fr := funext hfr
 have hc := chk_spec hchk
 refine wp_region_any hm (wpAny_inv (t0 := t0) hc hst hs hend opl.toArray.size _ _ _ ?_ ⟨⟨0, fun d => t0.getD d undef, by rw [fillL_self], ?_, by rw [hc.js0]; exact hJ, Nat.zero_le _, fun m h => by omega, fun m _ _ => none_listed _ _, fun d hd => (by rw [hc.js0] at hd; cases hd), fun d _ hw => (by obtain ⟨j, o', h1, _, _⟩ := hw; rw [none_listed] at h1; cases h1), fun d _ d' _ _ hw => by obtain ⟨j, o', h1, _, _⟩ := hw; rw [none_listed] at h1; cases h1⟩, ?_, ?_, by simp⟩)
 ·exact Nat.le_trans (List.length_filter_le _ _) (by simp)
 ·rintro d ⟨j, o', h1, -, -⟩
  rw [none_listed] at h1; cases h1
 ·intro i hi
  rw [none_listed] at hi; cases hi
 ·intro j oj _ hl
  rw [none_listed] at hl; cases hl
end
end Go.Proofs.YtacmccijnkojeaaGreat.AS
namespace Go.Proofs.YtacmccijnkojeaaGreat.AU
open Go Go.RowKit
open Go.Proofs.YtacmccijnkojeaaGreat.AS (edgesOk needsOk onceOk waits2 limOk allWritten allocsOk aOk Apart Written Written.more getD_flag)
variable {Rp Kp : World → World → Prop}
def storesOk (ops : Array Oper) (pt : List (List Nat)) (st : List Nat) (js : List (List Nat)) : Bool :=
 (List.range st.length).all fun m => decide (st.getD m 0 < ops.size) &&
  (Nat.beq m 0 || Region.waitsFor .any ops (st.getD m 0) (st.getD (m - 1) 0)) && (js.getD (m + 1) []).all fun d => (pt.getD (st.getD m 0) []).contains d || (js.getD m []).contains d || (match ops[st.getD m 0]? with | some o => o.dst == some d | none => false)
def lowOk (ops : Array Oper) (st ln : List Nat) : Bool :=
 (List.range ops.size).all fun i => Nat.beq (ln.getD i 0) 0 || (decide (ln.getD i 0 ≤ st.length) && waits2 ops i (st.getD (ln.getD i 0 - 1) 0))
def chk (al : List Nat) (ops : Array Oper) (pt : List (List Nat)) (ds st : List Nat) (js : List (List Nat)) (lm ln : List Nat) : Bool :=
 lowOk ops st ln && (allocsOk ops al st && al.all ds.contains && edgesOk ops && needsOk ops pt ds && onceOk ops && storesOk ops pt st js && limOk ops st lm && allWritten ops ds && (js.getD 0 []).isEmpty)
structure Chk (al : List Nat) (ops : Array Oper) (pt : List (List Nat)) (ds st : List Nat) (js : List (List Nat)) (lm ln : List Nat) : Prop where
 low : ∀ i, i < ops.size → ln.getD i 0 = 0 ∨ (ln.getD i 0 ≤ st.length ∧ waits2 ops i (st.getD (ln.getD i 0 - 1) 0) = true)
 edge : ∀ (i : Nat) (o : Oper), ops[i]? = some o → ∀ e ∈ o.after, Region.binds .any e = true → e.on < i
 dst : ∀ (i : Nat) (o : Oper), ops[i]? = some o → ∀ d, o.dst = some d → d ∈ ds
 need : ∀ (i : Nat) (o : Oper), ops[i]? = some o → ∀ d ∈ pt.getD i [], ∃ e ∈ o.after, Region.binds .any e = true ∧ ((∃ o' : Oper, ops[e.on]? = some o' ∧ o'.dst = some d) ∨ d ∈ pt.getD e.on [])
 once : ∀ (i j : Nat) (o o' : Oper) (d : Nat), ops[i]? = some o → ops[j]? = some o' → o.dst = some d → o'.dst = some d → i = j
 slt : ∀ m, m < st.length → st.getD m 0 < ops.size
 schain : ∀ m, 0 < m → m < st.length → Region.waitsFor .any ops (st.getD m 0) (st.getD (m - 1) 0) = true
 sjs : ∀ m, m < st.length → ∀ d ∈ js.getD (m + 1) [], d ∈ pt.getD (st.getD m 0) [] ∨ d ∈ js.getD m [] ∨ ∃ o : Oper, ops[st.getD m 0]? = some o ∧ o.dst = some d
 lim : ∀ i, i < ops.size → lm.getD i st.length = st.length ∨ waits2 ops (st.getD (lm.getD i st.length) ops.size) i = true
 wr : ∀ d ∈ ds, ∃ (i : Nat) (o : Oper), ops[i]? = some o ∧ o.dst = some d
 js0 : js.getD 0 [] = []
 alw : ∀ d ∈ al, ∀ m, m < st.length → ∃ (i : Nat) (o : Oper), ops[i]? = some o ∧ o.dst = some d ∧ waits2 ops (st.getD m 0) i = true
 ald : ∀ d ∈ al, d ∈ ds
section
variable {ops : Array Oper} {ds st lm ln al : List Nat} {js pt : List (List Nat)}
theorem chk_spec (h : chk al ops pt ds st js lm ln = true) : Chk al ops pt ds st js lm ln := by
 unfold chk at h
 simp only [Bool.and_eq_true] at h
 obtain ⟨h10, ⟨⟨⟨⟨⟨⟨⟨h8, h9⟩, h1⟩, h2⟩, h3⟩, h4⟩, h5⟩, h6⟩, h7⟩ := h
 have lt : ∀ (i : Nat) (o : Oper), ops[i]? = some o → i ∈ List.range ops.size := fun i o ho => List.mem_range.2 (Array.getElem?_eq_some_iff.1 ho).1
 constructor
 ·intro i hi
  have h := List.all_eq_true.1 h10 i (List.mem_range.2 hi)
  simp only [Bool.or_eq_true, Nat.beq_eq, Bool.and_eq_true, decide_eq_true_eq] at h
  exact h
 ·intro i o ho e he hb
  have h := List.all_eq_true.1 h1 i (lt i o ho)
  rw [ho] at h
  dsimp only at h
  rw [Array.all_eq_true_iff_forall_mem] at h
  have h := h e he
  rw [hb] at h
  simpa using h
 ·intro i o ho d hd
  have h := List.all_eq_true.1 h2 i (lt i o ho)
  rw [ho] at h
  dsimp only at h
  rw [hd] at h
  simp only [Bool.and_eq_true] at h
  simpa using h.1
 ·intro i o ho d hd
  have h := List.all_eq_true.1 h2 i (lt i o ho)
  rw [ho] at h
  simp only [Bool.and_eq_true] at h
  have h := List.all_eq_true.1 h.2 d hd
  rw [Array.any_eq_true] at h
  obtain ⟨k, hk, h⟩ := h
  rw [Bool.and_eq_true, Bool.or_eq_true] at h
  refine ⟨o.after[k], Array.getElem_mem _, h.1, ?_⟩
  rcases h.2 with h4 | h4
  ·left
   cases h5 : ops[(o.after[k]).on]? with
   | none => rw [h5] at h4; cases h4
   | some o' => rw [h5] at h4; exact ⟨o', rfl, by simpa using h4⟩
  ·right; simpa using h4
 ·intro i j o o' d ho ho' hd hd'
  have h := List.all_eq_true.1 (List.all_eq_true.1 h3 i (lt i o ho)) j (lt j o' ho')
  rw [ho, ho'] at h
  dsimp only at h
  rw [hd, hd'] at h
  simpa using h
 ·intro m hm
  have h := List.all_eq_true.1 h4 m (List.mem_range.2 hm)
  simp only [Bool.and_eq_true, decide_eq_true_eq] at h
  exact h.1.1
 ·intro m h0 hm
  have h := List.all_eq_true.1 h4 m (List.mem_range.2 hm)
  simp only [Bool.and_eq_true, decide_eq_true_eq, Bool.or_eq_true, Nat.beq_eq] at h
  rcases h.1.2 with h | h
  ·omega
  ·exact h
 ·intro m hm d hd
  have h := List.all_eq_true.1 h4 m (List.mem_range.2 hm)
  simp only [Bool.and_eq_true] at h
  have h := List.all_eq_true.1 h.2 d hd
  simp only [Bool.or_eq_true] at h
  rcases h with (h | h) | h
  ·exact .inl (by simpa using h)
  ·exact .inr (.inl (by simpa using h))
  ·cases ho : ops[st.getD m 0]? with
   | none => rw [ho] at h; cases h
   | some o => rw [ho] at h; exact .inr (.inr ⟨o, rfl, by simpa using h⟩)
 ·intro i hi
  have h := List.all_eq_true.1 h5 i (List.mem_range.2 hi)
  simp only [Bool.or_eq_true, Nat.beq_eq] at h
  exact h
 ·intro d hd
  have h := List.all_eq_true.1 h6 d hd
  rw [Array.any_eq_true] at h
  obtain ⟨k, hk, h⟩ := h
  exact ⟨k, ops[k], by simp [hk], by simpa using h⟩
 ·simpa using h7
 ·intro d hd m hm
  have h := List.all_eq_true.1 (List.all_eq_true.1 h8 d hd) (st.getD m 0) (by simp [hm])
  obtain ⟨i, hi, h⟩ := List.any_eq_true.1 h
  rw [Bool.and_eq_true] at h
  cases ho : ops[i]? with
  | none => rw [ho] at h; cases h.1
  | some o => rw [ho] at h; exact ⟨i, o, ho, by simpa using h.1, h.2⟩
 ·intro d hd
  have h := List.all_eq_true.1 h9 d hd
  simpa using h
end
open Go.Proofs.YtacmccijnkojeaaGreat (fillL upd fillL_size fillL_get fillL_upd fillL_self filter_less none_listed put_fill)
structure Fact (Kp : World → World → Prop) where
 p : (Nat → Value) → Value → World → Prop
 st : ∀ u v w w', Kp w w' → p u v w → p u v w'
 dep : List Nat
 ext : ∀ u u' v w, (∀ e ∈ dep, u' e = u e) → p u v w → p u' v w
def Fact.triv : Fact Kp := ⟨fun _ _ _ => True, fun _ _ _ _ _ _ => trivial, [], fun _ _ _ _ _ _ => trivial⟩
def Fact.is (x : Value) : Fact Kp := ⟨fun _ v _ => v = x, fun _ _ _ _ _ h => h, [], fun _ _ _ _ _ h => h⟩
def Fact.mk0 (p : Value → World → Prop) (st : ∀ v w w', Kp w w' → p v w → p v w') : Fact Kp := ⟨fun _ v w => p v w, fun _ v w w' => st v w w', [], fun _ _ _ _ _ h => h⟩
def Fact.of (e : Nat) (f : Value → Value) : Fact Kp := ⟨fun u v _ => v = f (u e), fun _ _ _ _ _ h => h, [e], fun u u' v w he h => by rw [he e (by simp)]; exact h⟩
def depsOk (FL : List (Nat × Fact Kp)) (ops : Array Oper) (pt : List (List Nat)) (look : List (Nat × Fact Kp) → Nat → Fact Kp) : Bool :=
 (List.range ops.size).all fun i => match ops[i]? with
  | some o => (match o.dst with
   | some d => (look FL d).dep.all fun e => (pt.getD i []).contains e
   | none => true)
  | none => true
def look : List (Nat × Fact Kp) → Nat → Fact Kp
 | [], _ => Fact.triv
 | (k, f) :: rest, d => bif Nat.beq k d then f else look rest d
def temps (FL : List (Nat × Fact Kp)) : List Nat := FL.map (·.1)
def factOf (FL : List (Nat × Fact Kp)) (u : Nat → Value) (dst : Option Nat) (v : Value) (w : World) : Prop := match dst with
 | none => True
 | some d => (look FL d).p u v w
def Facts (FL : List (Nat × Fact Kp)) (u : Nat → Value) (w : World) : List Nat → Prop
 | [] => True
 | d :: ds => (look FL d).p u (u d) w ∧ Facts FL u w ds
theorem facts_mk {FL : List (Nat × Fact Kp)} {u : Nat → Value} {w : World} {ds : List Nat} (h : ∀ d ∈ ds, (look FL d).p u (u d) w) : Facts FL u w ds := by
 induction ds with
 | nil => trivial
 | cons d ds ih => exact ⟨h d (List.mem_cons_self ..), ih fun e he => h e (List.mem_cons_of_mem _ he)⟩
theorem facts_get {FL : List (Nat × Fact Kp)} {u : Nat → Value} {w : World} {ds : List Nat} (h : Facts FL u w ds) (d : Nat) (hd : d ∈ ds) : (look FL d).p u (u d) w := by
 induction ds with
 | nil => cases hd
 | cons e ds ih =>
  rcases List.mem_cons.1 hd with rfl | hd
  ·exact h.1
  ·exact ih h.2 hd
section
variable {P : Program} {ops : Array Oper} {Q : Exit → Act → World → Prop} {FL : List (Nat × Fact Kp)} {J : Nat → List Value → World → Prop} {t0 : Array Value} {df : List Deferred} {ds : List Nat}
 {st lm ln al : List Nat} {js : List (List Nat)} {pt : List (List Nat)}
def StepOk (Rp : World → World → Prop) (al : List Nat) (P : Program) (ops : Array Oper) (Q : Exit → Act → World → Prop) (FL : List (Nat × Fact Kp)) (J : Nat → List Value → World → Prop) (js : List (List Nat)) (fr : (Nat → Value) → Array Value) (df : List Deferred) (o : Oper) (need : List Nat) (lim lo : Nat) : Prop :=
 ∀ (k : Nat) (u : Nat → Value) (w : World), k ≤ lim → lo ≤ k → J k ((js.getD k []).map u) w → Facts FL u w need → ∀ K : Act → World → Prop, Shut (∀ v w', Rp w w' → factOf FL u o.dst v w' → aOk al o.dst v w w' → K ((⟨fr u, df⟩ : Act).put o.dst v) w') →
  if Region.wanted o (yielded ops (fr u)) = true then Oper.wp P o ⟨fr u, df⟩ w K Q else K ((⟨fr u, df⟩ : Act).put o.dst undef) w
def StoreOk (al : List Nat) (P : Program) (ops : Array Oper) (Q : Exit → Act → World → Prop) (FL : List (Nat × Fact Kp)) (J : Nat → List Value → World → Prop) (js : List (List Nat)) (fr : (Nat → Value) → Array Value) (df : List Deferred) (o : Oper) (need : List Nat) (k : Nat) : Prop :=
 ∀ (u : Nat → Value) (w : World), J k ((js.getD k []).map u) w → Apart al u → Facts FL u w need → ∀ K : Act → World → Prop, Shut (∀ v w', J (k + 1) ((js.getD (k + 1) []).map (upd u o.dst v)) w' → Kp w w' → factOf FL u o.dst v w' → K ((⟨fr u, df⟩ : Act).put o.dst v) w') →
  if Region.wanted o (yielded ops (fr u)) = true then Oper.wp P o ⟨fr u, df⟩ w K Q else K ((⟨fr u, df⟩ : Act).put o.dst undef) w
def StepsOk (Rp : World → World → Prop) (al : List Nat) (P : Program) (ops : Array Oper) (Q : Exit → Act → World → Prop) (FL : List (Nat × Fact Kp)) (J : Nat → List Value → World → Prop) (js : List (List Nat)) (fr : (Nat → Value) → Array Value) (df : List Deferred) (pt : List (List Nat)) (st lm ln : List Nat) : List Oper → Nat → Prop
 | [], _ => True
 | o :: rest, i => (match st.idxOf? i with
   | some k => StoreOk al P ops Q FL J js fr df o (pt.getD i []) k
   | none => StepOk Rp al P ops Q FL J js fr df o (pt.getD i []) (lm.getD i st.length) (ln.getD i 0)) ∧ StepsOk Rp al P ops Q FL J js fr df pt st lm ln rest (i + 1)
theorem StepsOk.nil {fr : (Nat → Value) → Array Value} {i : Nat} : StepsOk Rp al P ops Q FL J js fr df pt st lm ln [] i := trivial
theorem sc {fr : (Nat → Value) → Array Value} {o : Oper} {rest : List Oper} {i : Nat} {need : List Nat} {lim lo : Nat} (h0 : st.idxOf? i = none) (h1 : pt.getD i [] = need) (h2 : lm.getD i st.length = lim) (h3 : ln.getD i 0 = lo)
  (h : StepOk Rp al P ops Q FL J js fr df o need lim lo) (hs : StepsOk Rp al P ops Q FL J js fr df pt st lm ln rest (i + 1)) : StepsOk Rp al P ops Q FL J js fr df pt st lm ln (o :: rest) i := ⟨by rw [h0, h1, h2, h3]; exact h, hs⟩
theorem steps_at {fr : (Nat → Value) → Array Value} : ∀ (l : List Oper) (i0 : Nat), StepsOk Rp al P ops Q FL J js fr df pt st lm ln l i0 → ∀ i o, l[i]? = some o → (match st.idxOf? (i0 + i) with
      | some k => StoreOk al P ops Q FL J js fr df o (pt.getD (i0 + i) []) k
      | none => StepOk Rp al P ops Q FL J js fr df o (pt.getD (i0 + i) []) (lm.getD (i0 + i) st.length) (ln.getD (i0 + i) 0)) := by
  intro l
  induction l with
  | nil => intro i0 _ i o h; simp at h
  | cons x l ih =>
    intro i0 hs i o h
    cases i with
    | zero => simp at h; subst h; exact hs.1
    | succ i =>
      have := ih (i0 + 1) hs.2 i o (by simpa using h)
      rwa [show i0 + 1 + i = i0 + (i + 1) by omega] at this
structure Inv (al : List Nat) (ops : Array Oper) (FL : List (Nat × Fact Kp)) (J : Nat → List Value → World → Prop) (js : List (List Nat)) (t0 : Array Value) (df : List Deferred) (ds : List Nat) (pt : List (List Nat)) (st : List Nat) (listed : Array Bool) (a : Act) (w : World) : Prop where
 fr : ∃ k u, a = ⟨fillL u ds t0, df⟩ ∧ (∀ d, Written ops listed d → (look FL d).p u (u d) w) ∧ J k ((js.getD k []).map u) w ∧ k ≤ st.length ∧ (∀ m, m < k → listed.getD (st.getD m 0) false = true) ∧
  (∀ m, k ≤ m → m < st.length → listed.getD (st.getD m 0) false = false) ∧ (∀ d ∈ js.getD k [], Written ops listed d) ∧ (∀ d ∈ al, Written ops listed d → ∃ g, u d = .pointer (some ⟨g, 0, none⟩) ∧ g < w.heap.size) ∧
  (∀ d ∈ al, ∀ d' ∈ al, d ≠ d' → Written ops listed d → Written ops listed d' → u d ≠ u d')
 cl : ∀ i, listed.getD i false = true → ∀ d ∈ pt.getD i [], Written ops listed d
 cs : ∀ j oj, ops[j]? = some oj → listed.getD j false = true → ∀ e ∈ oj.after, Region.binds .any e = true → listed.getD e.on false = true
 sz : listed.size = ops.size
theorem inv_step (hc : Chk al ops pt ds st js lm ln) (hdp : ∀ i o d, ops[i]? = some o → o.dst = some d → ∀ e ∈ (look FL d).dep, e ∈ pt.getD i []) (hsz : ∀ w w' : World, Kp w w' → w.heap.size ≤ w'.heap.size) (hrk : ∀ w w' : World, Rp w w' → Kp w w') (hst : ∀ k l w w', Rp w w' → J k l w → J k l w') (hs : StepsOk Rp al P ops Q FL J js (fun u => fillL u ds t0) df pt st lm ln ops.toList 0) {listed : Array Bool} {a : Act} {w : World}
    (hI : Inv al ops FL J js t0 df ds pt st listed a w) {i : Nat} (hi : i ∈ Region.ready .any ops listed) :
    wpOp P ops Q i (Inv al ops FL J js t0 df ds pt st (listed.setIfInBounds i true)) a w := by
  obtain ⟨h0, o, ho, hall⟩ := mem_ready.1 hi
  have hlt : i < ops.size := (Array.getElem?_eq_some_iff.1 ho).1
  have hil : i < listed.size := by rw [hI.sz]; exact hlt
  have hun : listed.getD i false = false := by rw [← getD_flag hil]; exact h0
  obtain ⟨k, u, rfl, hfac, hJ, hk, hk1, hk2, hk3, hk4, hk5⟩ := hI.fr
  have hneed : ∀ d ∈ pt.getD i [], Written ops listed d := by
    intro d hd
    obtain ⟨e, he, hb, h1⟩ := hc.need i o ho d hd
    have h2 := hall e he hb
    rcases h1 with ⟨o', h3, h4⟩ | h3
    · exact ⟨e.on, o', h2, h3, h4⟩
    · exact hI.cl e.on h2 d h3
  have hstep := steps_at _ _ hs i o (by simpa using ho)
  rw [Nat.zero_add] at hstep
  have hcs : ∀ j oj, ops[j]? = some oj → (listed.setIfInBounds i true).getD j false = true → ∀ e ∈ oj.after, Region.binds .any e = true → (listed.setIfInBounds i true).getD e.on false = true := by
    intro j oj hj hl e he hb
    by_cases hij : i = j
    · subst hij
      have : oj = o := Option.some.inj (hj.symm.trans ho)
      subst this
      exact getD_set_true (hall e he hb)
    · rw [getD_set_ne false hij] at hl
      exact getD_set_true (hI.cs j oj hj hl e he hb)
  have hcl : ∀ j, (listed.setIfInBounds i true).getD j false = true → ∀ d ∈ pt.getD j [], Written ops (listed.setIfInBounds i true) d := by
    intro j hj d hd
    by_cases hij : i = j
    · subst hij; exact (hneed d hd).more
    · rw [getD_set_ne false hij] at hj
      exact (hI.cl j hj d hd).more
  have hwait : ∀ m, m < k → ∀ j, Region.waitsFor .any ops (st.getD m 0) j = true → listed.getD j false = true := by
    intro m hm j hw
    obtain ⟨oj, hoj, e, he, hb, hon⟩ := Region.waitsFor_spec hw
    rw [← hon]
    exact hI.cs _ oj hoj (hk1 m hm) e he hb
  have hwait2 : ∀ m, m < k → ∀ j, waits2 ops (st.getD m 0) j = true → listed.getD j false = true := by
    intro m hm j hw
    unfold waits2 at hw
    rw [Bool.or_eq_true] at hw
    rcases hw with hw | hw
    · exact hwait m hm j hw
    · obtain ⟨x, -, hx⟩ := List.any_eq_true.1 hw
      rw [Bool.and_eq_true] at hx
      obtain ⟨oj, hoj, e, he, hb, hon⟩ := Region.waitsFor_spec hx.2
      rw [← hon]
      exact hI.cs _ oj hoj (hwait m hm x hx.1) e he hb
  cases hsi : st.idxOf? i with
  | none =>
    rw [hsi] at hstep
    have hns : ∀ m, m < st.length → st.getD m 0 ≠ i := by
      intro m hm e
      have h1 : i ∈ st := by rw [← e]; simp [hm]
      have h2 := List.idxOf?_eq_none_iff.1 hsi
      exact h2 h1
    have hlim : k ≤ lm.getD i st.length := by
      rcases hc.lim i hlt with h1 | h1
      · omega
      · rcases Nat.lt_or_ge (lm.getD i st.length) k with h2 | h2
        · exfalso
          have h3 := hwait2 _ h2 i (by
            have e : st.getD (lm.getD i st.length) ops.size = st.getD (lm.getD i st.length) 0 := by
              have : lm.getD i st.length < st.length := by omega
              generalize lm.getD i st.length = z at *
              simp [this]
            rw [← e]; exact h1)
          rw [hun] at h3; cases h3
        · exact h2
    have hlow : ln.getD i 0 ≤ k := by
      rcases hc.low i hlt with h1 | ⟨h0, h1⟩
      · omega
      · rcases Nat.lt_or_ge k (ln.getD i 0) with h2 | h2
        · exfalso
          have h3 : listed.getD (st.getD (ln.getD i 0 - 1) 0) false = true := by
            unfold waits2 at h1
            rw [Bool.or_eq_true] at h1
            rcases h1 with h1 | h1
            · obtain ⟨oj, hoj, e, he, hb, hon⟩ := Region.waitsFor_spec h1
              have : oj = o := Option.some.inj (hoj.symm.trans ho)
              subst this
              rw [← hon]; exact hall e he hb
            · obtain ⟨x, -, hx⟩ := List.any_eq_true.1 h1
              rw [Bool.and_eq_true] at hx
              obtain ⟨oj, hoj, e, he, hb, hon⟩ := Region.waitsFor_spec hx.1
              have : oj = o := Option.some.inj (hoj.symm.trans ho)
              subst this
              have h4 := hall e he hb
              rw [hon] at h4
              obtain ⟨oj2, hoj2, e2, he2, hb2, hon2⟩ := Region.waitsFor_spec hx.2
              rw [← hon2]
              exact hI.cs _ oj2 hoj2 h4 e2 he2 hb2
          rw [hk2 (ln.getD i 0 - 1) (by omega) (by omega)] at h3
          cases h3
        · exact h2
    refine wpOp_step ho (fun K' hK => hstep k u w hlim hlow hJ (facts_mk fun d hd => hfac d (hneed d hd)) K' ?_)
    intro v w' hb hf hao
    have hwi : ∀ d, Written ops (listed.setIfInBounds i true) d → o.dst = some d ∨ Written ops listed d := by
      rintro d ⟨j, o', h1, h2, h3⟩
      by_cases hij : i = j
      · subst hij
        rw [ho] at h2
        injection h2 with h2
        subst h2
        exact .inl h3
      · rw [getD_set_ne false hij] at h1
        exact .inr ⟨j, o', h1, h2, h3⟩
    have hnw : ∀ d, o.dst = some d → ¬ Written ops listed d := by
      rintro d hd ⟨j, o', h1, h2, h3⟩
      have := hc.once i j o o' d ho h2 hd h3
      subst this
      rw [hun] at h1; cases h1
    have hne : ∀ d, o.dst ≠ some d → upd u o.dst v d = u d := by
      intro d hd
      cases h : o.dst with
      | none => rfl
      | some d' => rw [h] at hd; simp only [upd]; rw [if_neg (fun h => hd (by rw [h]))]
    have hdep : ∀ d, Written ops listed d → ∀ e ∈ (look FL d).dep, upd u o.dst v e = u e := by
      rintro d ⟨j, oj, h1, h2, h3⟩ e he
      exact hne e fun h => hnw e h (hI.cl j h1 e (hdp j oj d h2 h3 e he))
    have hdep2 : ∀ d, o.dst = some d → ∀ e ∈ (look FL d).dep, upd u o.dst v e = u e := fun d hd e he =>
      hne e fun h => hnw e h (hneed e (hdp i o d ho hd e he))
    have hal : ∀ d ∈ al, o.dst = some d → v = .pointer (some ⟨w.heap.size, 0, none⟩) ∧ w.heap.size < w'.heap.size := by
      intro d hd h
      unfold aOk at hao
      rw [h] at hao
      dsimp only at hao
      rw [show al.contains d = true by simpa using hd] at hao
      exact hao
    refine hK _ _ ⟨⟨k, upd u o.dst v, put_fill u o v (hc.dst i o ho), ?_, ?_, hk, fun m hm => getD_set_true (hk1 m hm), fun m hm hm' => ?_, fun d hd => (hk3 d hd).more, fun d hd hw => ?_, fun d hd d' hd' hdd hw hw' => ?_⟩, hcl, hcs, by simpa using hI.sz⟩
    · rintro d ⟨j, o', h1, h2, h3⟩
      by_cases hd : o.dst = some d
      · have h9 := hdep2 d hd
        rw [hd] at hf h9 ⊢
        have e : upd u (some d) v d = v := by simp [upd]
        rw [e]; exact (look FL d).ext _ _ _ _ h9 hf
      · have hw : Written ops listed d := by
          by_cases hij : i = j
          · subst hij
            rw [ho] at h2
            injection h2 with h2
            subst h2
            exact absurd h3 hd
          · rw [getD_set_ne false hij] at h1
            exact ⟨j, o', h1, h2, h3⟩
        have e : upd u o.dst v d = u d := by
          cases h : o.dst with
          | none => rfl
          | some d' => rw [h] at hd; simp only [upd]; rw [if_neg (fun h => hd (by rw [h]))]
        rw [e]
        exact (look FL d).ext _ _ _ _ (hdep d hw) ((look FL d).st _ _ _ _ (hrk _ _ hb) (hfac d hw))
    · have e : (js.getD k []).map (upd u o.dst v) = (js.getD k []).map u := by
        apply List.map_congr_left
        intro d hd
        cases h : o.dst with
        | none => rfl
        | some d' =>
          simp only [upd]
          rw [if_neg]
          rintro rfl
          obtain ⟨j, o', h1, h2, h3⟩ := hk3 d hd
          have := hc.once i j o o' d ho h2 h h3
          subst this
          rw [hun] at h1; cases h1
      rw [e]
      exact hst _ _ _ _ hb hJ
    · rw [getD_set_ne false (Ne.symm (hns m hm'))]; exact hk2 m hm hm'
    · by_cases h : o.dst = some d
      · obtain ⟨h1, h2⟩ := hal d hd h
        exact ⟨w.heap.size, by rw [h]; simp [upd, h1], h2⟩
      · rcases hwi d hw with h1 | h1
        · exact absurd h1 h
        · obtain ⟨g, h2, h3⟩ := hk4 d hd h1
          exact ⟨g, by rw [hne d h]; exact h2, Nat.lt_of_lt_of_le h3 (hsz _ _ (hrk _ _ hb))⟩
    · by_cases h : o.dst = some d
      · have h' : o.dst ≠ some d' := fun h2 => hdd (by rw [h] at h2; injection h2)
        rcases hwi d' hw' with h1 | h1
        · exact absurd h1 h'
        · obtain ⟨g, h2, h3⟩ := hk4 d' hd' h1
          rw [hne d' h', h2, h]
          simp only [upd, if_pos]
          rw [(hal d hd h).1]
          intro he
          simp at he <;> omega
      · rcases hwi d hw with h1 | h1
        · exact absurd h1 h
        · by_cases h' : o.dst = some d'
          · obtain ⟨g, h2, h3⟩ := hk4 d hd h1
            rw [hne d h, h2, h']
            simp only [upd, if_pos]
            rw [(hal d' hd' h').1]
            intro he
            simp at he <;> omega
          · rcases hwi d' hw' with h2 | h2
            · exact absurd h2 h'
            · rw [hne d h, hne d' h']; exact hk5 d hd d' hd' hdd h1 h2
  | some m =>
    rw [hsi] at hstep
    obtain ⟨hm, hmi, -⟩ := List.idxOf?_eq_some_iff.1 hsi
    have hmi' : st.getD m 0 = i := by simp [hm]; exact hmi
    have hmk : m = k := by
      rcases Nat.lt_trichotomy m k with h1 | h1 | h1
      · have := hk1 m h1; rw [hmi', hun] at this; cases this
      · exact h1
      · exfalso
        have h2 := hc.schain m (by omega) hm
        rw [hmi'] at h2
        obtain ⟨oj, hoj, e, he, hb, hon⟩ := Region.waitsFor_spec h2
        have : oj = o := Option.some.inj (hoj.symm.trans ho)
        subst this
        have h3 := hall e he hb
        rw [hon, hk2 (m - 1) (by omega) (by omega)] at h3
        cases h3
    subst hmk
    have hwal : ∀ d ∈ al, Written ops listed d := by
      intro d hd
      obtain ⟨j, o', h1, h2, h3⟩ := hc.alw d hd m hm
      rw [hmi'] at h3
      refine ⟨j, o', ?_, h1, h2⟩
      unfold waits2 at h3
      rw [Bool.or_eq_true] at h3
      rcases h3 with h3 | h3
      · obtain ⟨oj, hoj, e, he, hb, hon⟩ := Region.waitsFor_spec h3
        have : oj = o := Option.some.inj (hoj.symm.trans ho)
        subst this
        rw [← hon]; exact hall e he hb
      · obtain ⟨x, -, hx⟩ := List.any_eq_true.1 h3
        rw [Bool.and_eq_true] at hx
        obtain ⟨oj, hoj, e, he, hb, hon⟩ := Region.waitsFor_spec hx.1
        have : oj = o := Option.some.inj (hoj.symm.trans ho)
        subst this
        have h4 := hall e he hb
        rw [hon] at h4
        obtain ⟨oj2, hoj2, e2, he2, hb2, hon2⟩ := Region.waitsFor_spec hx.2
        rw [← hon2]
        exact hI.cs _ oj2 hoj2 h4 e2 he2 hb2
    refine wpOp_step ho (fun K' hK => hstep u w hJ (fun d hd d' hd' hdd => hk5 d hd d' hd' hdd (hwal d hd) (hwal d' hd')) (facts_mk fun d hd => hfac d (hneed d hd)) K' ?_)
    intro v w' hJ' hb hf
    have hnw : ∀ d, o.dst = some d → ¬ Written ops listed d := by
      rintro d hd ⟨j, o', h1, h2, h3⟩
      have := hc.once i j o o' d ho h2 hd h3
      subst this
      rw [hun] at h1; cases h1
    have hne : ∀ d, o.dst ≠ some d → upd u o.dst v d = u d := by
      intro d hd
      cases h : o.dst with
      | none => rfl
      | some d' => rw [h] at hd; simp only [upd]; rw [if_neg (fun h => hd (by rw [h]))]
    have hdep : ∀ d, Written ops listed d → ∀ e ∈ (look FL d).dep, upd u o.dst v e = u e := by
      rintro d ⟨j, oj, h1, h2, h3⟩ e he
      exact hne e fun h => hnw e h (hI.cl j h1 e (hdp j oj d h2 h3 e he))
    have hdep2 : ∀ d, o.dst = some d → ∀ e ∈ (look FL d).dep, upd u o.dst v e = u e := fun d hd e he =>
      hne e fun h => hnw e h (hneed e (hdp i o d ho hd e he))
    have hnl : ∀ d ∈ al, o.dst ≠ some d := fun d hd h => hnw d h (hwal d hd)
    refine hK _ _ ⟨⟨m + 1, upd u o.dst v, put_fill u o v (hc.dst i o ho), ?_, hJ', hm, fun j hj => ?_, fun j hj hj' => ?_, fun d hd => ?_, fun d hd hw => ?_, fun d hd d' hd' hdd hw hw' => by rw [hne d (hnl d hd), hne d' (hnl d' hd')]; exact hk5 d hd d' hd' hdd (hwal d hd) (hwal d' hd')⟩, hcl, hcs, by simpa using hI.sz⟩
    · rintro d ⟨j, o', h1, h2, h3⟩
      by_cases hd : o.dst = some d
      · have h9 := hdep2 d hd
        rw [hd] at hf h9 ⊢
        have e : upd u (some d) v d = v := by simp [upd]
        rw [e]; exact (look FL d).ext _ _ _ _ h9 hf
      · have hw : Written ops listed d := by
          by_cases hij : i = j
          · subst hij
            rw [ho] at h2
            injection h2 with h2
            subst h2
            exact absurd h3 hd
          · rw [getD_set_ne false hij] at h1
            exact ⟨j, o', h1, h2, h3⟩
        rw [hne d hd]
        exact (look FL d).ext _ _ _ _ (hdep d hw) ((look FL d).st _ _ _ _ hb (hfac d hw))
    · by_cases h1 : j = m
      · subst h1; rw [hmi']; simp [hil]
      · exact getD_set_true (hk1 j (by omega))
    · have h1 := hk2 j (by omega) hj'
      by_cases h2 : st.getD j 0 = i
      · exfalso
        have h3 : ∀ n, m ≤ n → n < st.length → i ≤ st.getD n 0 ∧ (m < n → i < st.getD n 0) := by
          intro n
          induction n with
          | zero => intro h4 h5; exact ⟨by have : m = 0 := by omega
                                           subst this; rw [hmi']; exact Nat.le_refl _, fun h => by omega⟩
          | succ n ih =>
            intro h4 h5
            by_cases h6 : m = n + 1
            · subst h6; exact ⟨by rw [hmi']; exact Nat.le_refl _, fun h => by omega⟩
            · have h7 := ih (by omega) (by omega)
              have h8 := hc.schain (n + 1) (by omega) h5
              obtain ⟨oj, hoj, e, he, hb', hon⟩ := Region.waitsFor_spec h8
              have h9 := hc.edge _ oj hoj e he hb'
              rw [hon, Nat.add_sub_cancel] at h9
              exact ⟨by omega, fun _ => by omega⟩
        have := (h3 j (by omega) hj').2 (by omega)
        omega
      · rw [getD_set_ne false (Ne.symm h2)]; exact h1
    · rcases hc.sjs m hm d hd with h1 | h1
      · rw [hmi'] at h1; exact (hneed d h1).more
      · rcases h1 with h1 | ⟨o2, h1, h2⟩
        · exact (hk3 d h1).more
        · rw [hmi'] at h1
          exact ⟨i, o2, by simp [hil], h1, h2⟩
    · obtain ⟨g, h1, h2⟩ := hk4 d hd (hwal d hd)
      exact ⟨g, by rw [hne d (hnl d hd)]; exact h1, Nat.lt_of_lt_of_le h2 (hsz _ _ hb)⟩
theorem ready_nil_all (hc : Chk al ops pt ds st js lm ln) {listed : Array Bool} (hsz : listed.size = ops.size) (hr : Region.ready .any ops listed = []) : ∀ n i, i < n → i < ops.size → listed.getD i false = true := by
 intro n
 induction n with
 | zero => intro i h; omega
 | succ n ih =>
  intro i hin hi
  have hil : i < listed.size := by omega
  cases hv : listed.getD i false with
  | true => rfl
  | false =>
   exfalso
   have ho : ops[i]? = some ops[i] := by simp [hi]
   have : i ∈ Region.ready .any ops listed := by
    rw [mem_ready]
    refine ⟨by simp [hil] at hv ⊢; exact hv, _, ho, fun e he hb => ?_⟩
    have h1 := hc.edge i _ ho e he hb
    exact ih e.on (by omega) (by omega)
   rw [hr] at this
   cases this
theorem wpAny_inv (hc : Chk al ops pt ds st js lm ln) (hdp : ∀ i o d, ops[i]? = some o → o.dst = some d → ∀ e ∈ (look FL d).dep, e ∈ pt.getD i []) (hsz : ∀ w w' : World, Kp w w' → w.heap.size ≤ w'.heap.size) (hrk : ∀ w w' : World, Rp w w' → Kp w w') (hst : ∀ k l w w', Rp w w' → J k l w → J k l w') (hs : StepsOk Rp al P ops Q FL J js (fun u => fillL u ds t0) df pt st lm ln ops.toList 0)
  (hend : ∀ u w, J st.length ((js.getD st.length []).map u) w → Facts FL u w ds → Q .normal ⟨fillL u ds t0, df⟩ w) :
  ∀ (fuel : Nat) (listed : Array Bool) (a : Act) (w : World), ((List.range ops.size).filter fun j => !listed.getD j true).length ≤ fuel → Inv al ops FL J js t0 df ds pt st listed a w → wpAny P .any ops Q fuel listed a w := by
 have hfin : ∀ (listed : Array Bool) (a : Act) (w : World), Inv al ops FL J js t0 df ds pt st listed a w → Region.ready .any ops listed = [] → Q .normal a w := by
  intro listed a w hI hr
  obtain ⟨k, u, rfl, hfac, hJ, hk, hk1, hk2, hk3, hk4, hk5⟩ := hI.fr
  have hall := Go.Proofs.YtacmccijnkojeaaGreat.AU.ready_nil_all hc hI.sz hr
  have hkl : k = st.length := by
   rcases Nat.lt_or_ge k st.length with h | h
   ·have h1 := hk2 k (Nat.le_refl _) h
    rw [hall (st.getD k 0 + 1) _ (by omega) (hc.slt k h)] at h1
    cases h1
   ·omega
  subst hkl
  refine hend u w hJ (facts_mk fun d hd => hfac d ?_)
  obtain ⟨i, o, h1, h2⟩ := hc.wr d hd
  exact ⟨i, o, hall (i + 1) i (by omega) (Array.getElem?_eq_some_iff.1 h1).1, h1, h2⟩
 intro fuel
 induction fuel with
 | zero =>
  intro listed a w hcnt hI
  have hr : Region.ready .any ops listed = [] := by
   rw [List.eq_nil_iff_forall_not_mem]
   intro j hj
   obtain ⟨h0, o, ho, -⟩ := mem_ready.1 hj
   have hlt : j < ops.size := (Array.getElem?_eq_some_iff.1 ho).1
   have hm : j ∈ (List.range ops.size).filter fun j => !listed.getD j true := by
    rw [List.mem_filter]
    exact ⟨List.mem_range.2 hlt, by rw [h0]; rfl⟩
   have := List.length_pos_of_mem hm
   omega
  exact ⟨hr, hfin _ _ _ hI hr⟩
 | succ fuel ih =>
  intro listed a w hcnt hI
  refine ⟨fun hr => hfin _ _ _ hI hr, fun i hi => ?_⟩
  obtain ⟨h0, o, ho, -⟩ := mem_ready.1 hi
  have hlt : i < ops.size := (Array.getElem?_eq_some_iff.1 ho).1
  refine wpOp_mono (fun a' w' hI' => ih _ a' w' ?_ hI') (inv_step hc hdp hsz hrk hst hs hI hi)
  have := filter_less (p := fun j => !listed.getD j true) (q := fun j => !(listed.setIfInBounds i true).getD j true) (i := i) (by simp only [h0]; rfl) (by
   have hil : i < listed.size := by rw [hI.sz]; exact hlt
   simp [hil]) (fun j hj => by
   by_cases hij : i = j
   ·subst hij
    exfalso
    have hil : i < listed.size := by rw [hI.sz]; exact hlt
    simp [hil] at hj
   ·rw [getD_set_ne true hij] at hj; exact hj) (List.range ops.size) (List.mem_range.2 hlt)
  omega
theorem region_facts {id : Nat} {w : World} {opl : List Oper} (FL : List (Nat × Fact Kp)) (J : Nat → List Value → World → Prop) (pt : List (List Nat)) (st : List Nat) (js : List (List Nat)) (lm ln : List Nat) (al : List Nat) {fr : (Nat → Value) → Array Value} (hfr : ∀ u, fillL u (temps FL) t0 = fr u)
  (hm : P.follows .mixedOrders = true) (hchk : chk al opl.toArray pt (temps FL) st js lm ln = true) (hdo : depsOk FL opl.toArray pt look = true) (hsz : ∀ w w' : World, Kp w w' → w.heap.size ≤ w'.heap.size) (hrk : ∀ w w' : World, Rp w w' → Kp w w') (hst : ∀ k l w w', Rp w w' → J k l w → J k l w') (hJ : J 0 [] w.drew)
  (hs : StepsOk Rp al P opl.toArray Q FL J js fr df pt st lm ln opl 0)
  (hend : ∀ u w, J st.length ((js.getD st.length []).map u) w → Facts FL u w (temps FL) → Q .normal ⟨fr u, df⟩ w) : (Code.region id opl.toArray true).wp P Q ⟨t0, df⟩ w := by
 obtain rfl : (fun u => fillL u (temps FL) t0) = fr := funext hfr
 have hc := chk_spec hchk
 have hdp : ∀ i o d, opl.toArray[i]? = some o → o.dst = some d → ∀ e ∈ (look FL d).dep, e ∈ pt.getD i [] := by
  intro i o d ho hd e he
  unfold depsOk at hdo
  have h := List.all_eq_true.1 hdo i (List.mem_range.2 (Array.getElem?_eq_some_iff.1 ho).1)
  rw [ho] at h
  dsimp only at h
  rw [hd] at h
  have h2 := List.all_eq_true.1 h e he
  simpa using h2
 refine wp_region_any hm (wpAny_inv (t0 := t0) hc hdp hsz hrk hst hs hend opl.toArray.size _ _ _ ?_ ⟨⟨0, fun d => t0.getD d undef, by rw [fillL_self], ?_, by rw [hc.js0]; exact hJ, Nat.zero_le _, fun m h => by omega, fun m _ _ => none_listed _ _, fun d hd => (by rw [hc.js0] at hd; cases hd), fun d _ hw => (by obtain ⟨j, o', h1, _, _⟩ := hw; rw [none_listed] at h1; cases h1), fun d _ d' _ _ hw => by obtain ⟨j, o', h1, _, _⟩ := hw; rw [none_listed] at h1; cases h1⟩, ?_, ?_, by simp⟩)
 ·exact Nat.le_trans (List.length_filter_le _ _) (by simp)
 ·rintro d ⟨j, o', h1, -, -⟩
  rw [none_listed] at h1; cases h1
 ·intro i hi
  rw [none_listed] at hi; cases hi
 ·intro j oj _ hl
  rw [none_listed] at hl; cases hl
end
end Go.Proofs.YtacmccijnkojeaaGreat.AU
namespace Go.Proofs.YtacmccijnkojeaaGreat
open Go.RowKit
def IntsAt (k : IntKind) (w : World) (A : Option Addr) (zs : List Int) : Prop := 0 < zs.length → ∃ b off, A = some ⟨b, off, none⟩ ∧ b < w.heap.size ∧ ∀ i, i < zs.length → w.cell? ⟨b, off + i, none⟩ = some (.int k (zs.getD i 0))
def OwnI (k : IntKind) (e : TypeId) (w : World) (base : Nat) (v : Value) (L : List Int) : Prop := w.ownsRow base e 1 v L.length (L.map fun d => Value.int k d)
section
variable {k : IntKind} {e : TypeId} {w w' : World} {base B : Nat} {v : Value} {A : Option Addr} {L M zs : List Int}
theorem IntsAt.nil : IntsAt k w A [] := fun h => absurd h (by simp)
theorem OwnI.nil : OwnI k e w base (.slice none 0 0) [] := World.ownsRow_nil _ _ _ _
theorem OwnI.alloc (h : OwnI k e w base v L) (o : Obj) : OwnI k e (w.alloc o) base v L := World.ownsRow.alloc h o
theorem OwnI.up (h : OwnI k e w base v L) (hb : Below w.heap.size w w') : OwnI k e w' base v L := by
 obtain ⟨h1, h2⟩ := h
 refine ⟨h1, ?_⟩
 rcases h2 with h2 | ⟨g, cap, cur, rfl, hbg, hg, rest⟩
 ·exact .inl h2
 ·have hlt : g < w.heap.size := by
   rcases Nat.lt_or_ge g w.heap.size with hlt | hge
   ·exact hlt
   ·rw [Array.getElem?_eq_none hge] at hg; cases hg
  exact .inr ⟨g, cap, cur, rfl, hbg, (hb.block g hlt).trans hg, rest⟩
theorem OwnI.ints (h : OwnI k e w base v L) : ∃ A c, v = .slice A L.length c ∧ IntsAt k w A L := by
 obtain ⟨h1, h2⟩ := h
 rcases h2 with ⟨rfl, h0⟩ | ⟨g, cap, cur, rfl, hbg, hg, hn, hcap, hsz, hcur⟩
 ·obtain rfl : L = [] := List.eq_nil_of_length_eq_zero h0
  exact ⟨none, 0, rfl, IntsAt.nil⟩
 ·refine ⟨_, cap, rfl, fun _ => ⟨g, 0, rfl, ?_, fun j hj => ?_⟩⟩
  ·rcases Nat.lt_or_ge g w.heap.size with hlt | hge
   ·exact hlt
   ·rw [Array.getElem?_eq_none hge] at hg; cases hg
  ·have h3 : cur.toList[j]? = some (Value.int k (L.getD j 0)) := by
    have : (cur.toList.take (L.length * 1))[j]? = some (Value.int k (L.getD j 0)) := by
     rw [hcur, List.getElem?_map, List.getElem?_eq_getElem hj, List.getD_eq_getElem?_getD, List.getElem?_eq_getElem hj]; rfl
    rw [List.getElem?_take] at this
    split at this
    ·exact this
    ·cases this
   simp only [World.cell?, hg, Nat.zero_add]
   simpa using h3
end
theorem infoI_int : (Tryz.prog.info? 3).map (fun i => (i.zero, i.size, i.bytes)) = some (some (.int .i64 0), 1, 8) := by kernel_rfl
open Go.ChangeShapes Go.WideShapes Go.ChangeAt Go.WideMaps Go.WideElems Go.RowKit
theorem laid_out : laidOutB Tryz.prog = true := by kernel_rfl
theorem trodAll_stays {H : Type} {enc : TypeId × Value → H} {P : Program} (hl : laidOutB P = true) {W W' : World} (hb : Below W.heap.size W W') {sp : Nat → Bool} :
  ∀ {ts : List TypeId} {vs : List Value} {ds : List (DataW H)} {ps : List MemPlace}, (ts.all fun t => P.readableRec t && decide (t < P.types.size)) = true → DataW.TrodAll enc P W 0 (fun _ => true) true ts vs ds ps →
   (∀ x ∈ ps, x.block < W.heap.size) → (∀ x ∈ ps, sp x.block = true) → DataW.TrodAll enc P W' 0 sp true ts vs ds ps
 | [], vs, ds, ps, _, h, _, _ => by
  cases vs <;> cases ds <;> simp [DataW.TrodAll] at h ⊢
  exact h
 | t :: ts, vs, ds, ps, ht, h, hlt, hs => by
  obtain ⟨v, vs', d, ds', p, q, rfl, rfl, rfl, h1, h2⟩ := trodAll_cons h
  simp only [List.all_cons, Bool.and_eq_true, decide_eq_true_eq] at ht
  refine trodAll_cons_mk (WideElems.Trod_stays hl ht.1.1 ht.1.2 h1 (fun x hx => hb.same (hlt x (by simp [hx]))) fun x hx => hs x (by simp [hx])) ?_
  exact trodAll_stays hl hb ht.2 h2 (fun x hx => hlt x (by simp [hx])) fun x hx => hs x (by simp [hx])
theorem post_plain {H : Type} {enc : TypeId × Value → H} {P : Program} {f : Func} {s : ChangeSpec} {ap fr ho ag : Bool} {W W' : World} {args : Array Value} {v : Value} {ds gs : List (DataW H)} {before pa pv : List MemPlace}
  (hW : DataW.Whole enc P f.params.toList s.vars ap W args.toList ds gs before)
  (hres : ∀ (b : Nat) (sp : Nat → Bool) (hd : Bool), DataW.TrodAll enc P W' b sp hd f.resultTypes.toList (v.resultList f.resultTypes.size) (s.fn H (ds ++ gs)).results [])
  (hargs : ∀ sp : Nat → Bool, (∀ p ∈ before, sp p.block = true) → DataW.TrodAll enc P W' 0 sp true f.params.toList args.toList (s.fn H (ds ++ gs)).args pa)
  (hvars : ∀ sp : Nat → Bool, (∀ p ∈ before, sp p.block = true) → DataW.TrodVars enc P W' sp s.vars (s.fn H (ds ++ gs)).vars pv)
  (hps : before = pa ++ pv) (hb : Below W.heap.size W W')
  (hok : ∀ (j : Nat) (t : TypeId) (r : Value), f.resultTypes[j]? = some t → (v.resultList f.resultTypes.size)[j]? = some r → Value.okWide P W' .any 0 t r) : s.post enc P f ap fr ho ag W args v W' := by
 have hlt : ∀ p ∈ before, p.block < W.heap.size := fun p hp => hW.lt p hp
 have hin : ∀ p ∈ before, (fun b => decide (b < W.heap.size)) p.block = true := fun p hp => by simpa using hlt p hp
 refine ⟨ds, gs, before, [], pa, pv, hW, hres _ _ _, hargs _ hin, hvars _ hin, World.keptBut_mono (fun p hp => ⟨hp, .inr (List.mem_append.1 (hps ▸ hp))⟩) (hb.frame (· ∈ before)), fun _ => ?_⟩
 obtain ⟨_, _, _, _, _, hz, hn⟩ := hW
 refine ⟨hok, _, _, ([] ++ pa) ++ pv, ⟨[] ++ pa, pv, trodAll_append (hargs _ (fun _ _ => rfl)) (hres _ _ _), hvars _ (fun _ _ => rfl), rfl, fun b off hp => ?_, fun ha => ?_⟩, ?_⟩
 ·have hbe : MemPlace.cell b off ∈ before := by rw [hps]; simpa using hp
  rw [hb.frozen (hlt _ hbe)]
  exact hz b off hbe
 ·have h9 := hn ha
  rw [hps] at h9
  simpa using h9
 ·intro p hp _
  rw [hps, ← List.nil_append pa]
  exact hp
structure Acc where
 code : Int
 kind : Int
 basis : Int
 par : Int
structure Bal where
 acct : Int
 amt : Int
instance : DecidableEq Bal := fun a b => decidable_of_iff (a.acct = b.acct ∧ a.amt = b.amt) (by cases a; cases b; simp)
abbrev acc0 : Acc := ⟨0, 0, 0, 0⟩
theorem getD_mem_acc {α : Type} {d : α} {L : List α} {i : Nat} (h : i < L.length) : L.getD i d ∈ L := by
 rw [List.getD_eq_getElem?_getD, List.getElem?_eq_getElem h]; exact List.getElem_mem h
theorem mem_getD_acc {α : Type} {d : α} {L : List α} {a : α} (h : a ∈ L) : ∃ i, i < L.length ∧ L.getD i d = a := by
 obtain ⟨i, hi, rfl⟩ := List.getElem_of_mem h
 exact ⟨i, hi, by rw [List.getD_eq_getElem?_getD, List.getElem?_eq_getElem hi]; rfl⟩
theorem take_succ_getD {α : Type} {d : α} {L : List α} {i : Nat} (h : i < L.length) : L.take (i + 1) = L.take i ++ [L.getD i d] := by
 rw [List.take_succ_eq_append_getElem h, List.getD_eq_getElem?_getD, List.getElem?_eq_getElem h]; rfl
theorem drop_getD {α : Type} {d : α} {L : List α} {i : Nat} (h : i < L.length) : L.drop i = L.getD i d :: L.drop (i + 1) := by
 rw [List.drop_eq_getElem_cons h, List.getD_eq_getElem?_getD, List.getElem?_eq_getElem h]; rfl
theorem all_getD {α : Type} {d : α} {p : α → Bool} {L : List α} : L.all p = true ↔ ∀ i, i < L.length → p (L.getD i d) = true := by
 rw [List.all_eq_true]
 constructor
 ·intro h i hi; exact h _ (getD_mem_acc hi)
 ·intro h x hx
  obtain ⟨i, hi, rfl⟩ := mem_getD_acc (d := d) hx
  exact h i hi
def fnd (L : List Acc) (c : Int) : Option Acc := L.find? fun a => decide (a.code = c)
theorem fnd_some {L : List Acc} {c : Int} {a : Acc} (h : fnd L c = some a) : a ∈ L ∧ a.code = c := by
 unfold fnd at h
 exact ⟨List.mem_of_find?_eq_some h, by simpa using List.find?_some h⟩
theorem fnd_none {L : List Acc} {c : Int} : fnd L c = none ↔ ∀ a ∈ L, a.code ≠ c := by
 unfold fnd; rw [List.find?_eq_none]; simp
theorem fnd_is {L : List Acc} {a : Acc} (h : a ∈ L) : ∃ b, fnd L a.code = some b := by
 cases hf : fnd L a.code with
 | some b => exact ⟨b, rfl⟩
 | none => exact absurd rfl (fnd_none.1 hf a h)
def climbN (L : List Acc) : Nat → Int → List Int
 | 0, _ => []
 | n + 1, c => match fnd L c with
  | none => []
  | some a => c :: climbN L n a.par
def climb (L : List Acc) (c : Int) : List Int := climbN L (L.length + 1) c
theorem climbN_none {L : List Acc} {n : Nat} {c : Int} (h : fnd L c = none) : climbN L n c = [] := by
 cases n with
 | zero => rfl
 | succ n => simp [climbN, h]
theorem climbN_some {L : List Acc} {n : Nat} {c : Int} {a : Acc} (h : fnd L c = some a) : climbN L (n + 1) c = c :: climbN L n a.par := by simp [climbN, h]
theorem climbN_le {L : List Acc} : ∀ {n : Nat} {c : Int}, (climbN L n c).length ≤ n
 | 0, _ => by simp [climbN]
 | n + 1, c => by
  cases h : fnd L c with
  | none => rw [climbN_none h]; simp
  | some a => rw [climbN_some h]; have := climbN_le (L := L) (n := n) (c := a.par); simp; exact this
theorem climbN_take {L : List Acc} : ∀ {m n : Nat} {c : Int}, m ≤ n → climbN L m c = (climbN L n c).take m
 | 0, n, c, _ => by simp [climbN]
 | m + 1, 0, c, h => by omega
 | m + 1, n + 1, c, h => by
  cases hf : fnd L c with
  | none => rw [climbN_none hf, climbN_none hf]; simp
  | some a => rw [climbN_some hf, climbN_some hf, climbN_take (m := m) (n := n) (by omega)]; rfl
theorem climbN_more {L : List Acc} {m n : Nat} {c : Int} (h : (climbN L n c).length < n) (hm : n ≤ m) : climbN L m c = climbN L n c := by
 have h1 := climbN_take (L := L) (c := c) hm
 have h2 : (climbN L n c).length = min n (climbN L m c).length := by rw [h1, List.length_take]
 rw [h1, List.take_of_length_le (by omega)]
theorem climbN_drop {L : List Acc} : ∀ {k n : Nat} {c : Int}, k < (climbN L n c).length → (climbN L n c).drop k = climbN L (n - k) ((climbN L n c).getD k 0)
 | k, 0, c, h => by simp [climbN] at h
 | 0, n + 1, c, h => by
  cases hf : fnd L c with
  | none => rw [climbN_none hf] at h; simp at h
  | some a => rw [climbN_some hf]; simp [climbN_some hf]
 | k + 1, n + 1, c, h => by
  cases hf : fnd L c with
  | none => rw [climbN_none hf] at h; simp at h
  | some a =>
   rw [climbN_some hf] at h ⊢
   have := climbN_drop (L := L) (k := k) (n := n) (c := a.par) (by simpa using h)
   simpa [Nat.succ_sub_succ] using this
theorem climbN_mem {L : List Acc} : ∀ {n : Nat} {c x : Int}, x ∈ climbN L n c → ∃ a ∈ L, a.code = x
 | 0, c, x, h => by simp [climbN] at h
 | n + 1, c, x, h => by
  cases hf : fnd L c with
  | none => rw [climbN_none hf] at h; simp at h
  | some a =>
   rw [climbN_some hf] at h
   rcases List.mem_cons.1 h with rfl | h
   ·exact ⟨a, (fnd_some hf).1, (fnd_some hf).2⟩
   ·exact climbN_mem h
theorem climbN_nodup {L : List Acc} {n : Nat} {c : Int} (h : (climbN L n c).length < n) : (climbN L n c).Nodup := by
 rw [List.nodup_iff_pairwise_ne, List.pairwise_iff_getElem]
 intro i j hi hj hij e
 have d1 := climbN_drop (L := L) (n := n) (c := c) hi
 have d2 := climbN_drop (L := L) (n := n) (c := c) hj
 rw [List.getD_eq_getElem?_getD, List.getElem?_eq_getElem hi] at d1
 rw [List.getD_eq_getElem?_getD, List.getElem?_eq_getElem hj] at d2
 simp only [Option.getD_some] at d1 d2
 rw [← e] at d2
 have l1 := congrArg List.length d1
 have l2 := congrArg List.length d2
 rw [List.length_drop] at l1 l2
 have := climbN_more (L := L) (m := n - i) (n := n - j) (c := (climbN L n c)[i]) (by omega) (by omega)
 rw [this] at l1
 omega
theorem nodup_subset_len {α : Type} [DecidableEq α] : ∀ {l m : List α}, l.Nodup → (∀ x ∈ l, x ∈ m) → l.length ≤ m.length
 | [], m, _, _ => by simp
 | a :: l, m, hn, hs => by
  have ha := hs a (List.mem_cons_self ..)
  rw [List.nodup_cons] at hn
  have := nodup_subset_len (l := l) (m := m.erase a) hn.2 (fun x hx => by
   rw [List.mem_erase_of_ne (by rintro rfl; exact hn.1 hx)]
   exact hs x (List.mem_cons_of_mem _ hx))
  rw [List.length_erase_of_mem ha] at this
  have h0 : 0 < m.length := List.length_pos_of_mem ha
  simp; omega
def Ends (L : List Acc) (c : Int) : Prop := ∃ n, (climbN L n c).length < n
theorem ends_climb {L : List Acc} {c : Int} (h : Ends L c) : (climb L c).length ≤ L.length := by
 obtain ⟨n, h⟩ := h
 unfold climb
 have hl : (climbN L n c).length ≤ L.length := by
  have := nodup_subset_len (l := climbN L n c) (m := L.map Acc.code) (climbN_nodup h) (fun x hx => by
   obtain ⟨a, ha, e⟩ := climbN_mem hx
   exact List.mem_map.2 ⟨a, ha, e⟩)
  simpa using this
 rcases Nat.lt_or_ge (L.length + 1) n with h1 | h1
 ·rw [climbN_take (Nat.le_of_lt h1), List.length_take]; omega
 ·rw [climbN_more h h1]; exact hl
theorem climb_ends {L : List Acc} {c : Int} (h : (climb L c).length ≤ L.length) : Ends L c := ⟨L.length + 1, by unfold climb at h; omega⟩
theorem ends_iff {L : List Acc} {c : Int} : (climb L c).length ≤ L.length ↔ Ends L c := ⟨climb_ends, ends_climb⟩
theorem ends_out {L : List Acc} {c : Int} (h : fnd L c = none) : Ends L c := ⟨1, by rw [climbN_none h]; simp⟩
theorem ends_up {L : List Acc} {c : Int} {a : Acc} (h : fnd L c = some a) (he : Ends L a.par) : Ends L c := by
 obtain ⟨n, he⟩ := he
 exact ⟨n + 1, by rw [climbN_some h]; simp; exact he⟩
def stepN (L : List Acc) : Nat → Int → Option Int
 | 0, c => some c
 | k + 1, c => match fnd L c with
  | none => none
  | some a => stepN L k a.par
theorem stepN_snoc {L : List Acc} : ∀ {k : Nat} {c d : Int} {a : Acc}, stepN L k c = some d → fnd L d = some a → stepN L (k + 1) c = some a.par
 | 0, c, d, a, h, ha => by simp [stepN] at h; subst h; simp [stepN, ha]
 | k + 1, c, d, a, h, ha => by
  cases hf : fnd L c with
  | none => simp [stepN, hf] at h
  | some x =>
   have h1 : stepN L k x.par = some d := by simpa [stepN, hf] using h
   have := stepN_snoc h1 ha
   rw [show stepN L (k + 1 + 1) c = stepN L (k + 1) x.par from by simp [stepN, hf]]
   exact this
theorem step_ends {L : List Acc} : ∀ {k : Nat} {c d : Int}, stepN L k c = some d → Ends L d → Ends L c
 | 0, c, d, h, he => by simp [stepN] at h; subst h; exact he
 | k + 1, c, d, h, he => by
  cases hf : fnd L c with
  | none => simp [stepN, hf] at h
  | some x =>
   have h1 : stepN L k x.par = some d := by simpa [stepN, hf] using h
   exact ends_up hf (step_ends h1 he)
theorem step_len {L : List Acc} : ∀ {k : Nat} {c d : Int} (n : Nat), stepN L k c = some d → (climbN L (n + k) c).length = k + (climbN L n d).length
 | 0, c, d, n, h => by simp [stepN] at h; subst h; simp
 | k + 1, c, d, n, h => by
  cases hf : fnd L c with
  | none => simp [stepN, hf] at h
  | some x =>
   have h1 : stepN L k x.par = some d := by simpa [stepN, hf] using h
   rw [show n + (k + 1) = (n + k) + 1 from rfl, climbN_some hf]
   have := step_len n h1
   simp; omega
theorem loop_no_end {L : List Acc} {k : Nat} {c : Int} (h : stepN L (k + 1) c = some c) : ¬ Ends L c := by
 rintro ⟨n, he⟩
 have h1 := step_len n h
 rw [climbN_more he (Nat.le_add_right _ _)] at h1
 omega
def lastC (L : List Acc) : Nat → Int
 | 0 => 0
 | k + 1 => (L.getD k acc0).code
theorem lastC_succ {L : List Acc} {k : Nat} : lastC L (k + 1) = (L.getD k acc0).code := rfl
def codesTo (L : List Acc) : Nat → Bool
 | 0 => true
 | k + 1 => codesTo L k && decide (lastC L k < (L.getD k acc0).code)
theorem codes_succ {L : List Acc} {k : Nat} : codesTo L (k + 1) = (codesTo L k && decide (lastC L k < (L.getD k acc0).code)) := rfl
theorem codesTo_le {L : List Acc} : ∀ {k m : Nat}, k ≤ m → codesTo L m = true → codesTo L k = true
  | k, m, h, hm => by
    induction m with
    | zero => obtain rfl : k = 0 := by omega
              exact hm
    | succ m ih =>
      rcases Nat.lt_or_ge k (m + 1) with h1 | h1
      · rw [codes_succ, Bool.and_eq_true] at hm
        exact ih (by omega) hm.1
      · obtain rfl : k = m + 1 := by omega
        exact hm
def codesB (L : List Acc) : Bool := codesTo L L.length && decide (lastC L L.length ≤ 99999)
theorem codesB_no {L : List Acc} {k : Nat} (hk : k < L.length) (h : (L.getD k acc0).code ≤ lastC L k) : codesB L = false := by
 cases h1 : codesTo L L.length with
 | false => unfold codesB; rw [h1]; rfl
 | true =>
  have := codesTo_le (k := k + 1) (by omega) h1
  rw [codes_succ, Bool.and_eq_true, decide_eq_true_eq] at this
  omega
theorem codesB_end {L : List Acc} (h : codesTo L L.length = true) : codesB L = decide (lastC L L.length ≤ 99999) := by unfold codesB; rw [h]; rfl
structure Srt (L : List Acc) : Prop where
 pos : ∀ i, i < L.length → 1 ≤ (L.getD i acc0).code
 mono : ∀ i j, i < j → j < L.length → (L.getD i acc0).code < (L.getD j acc0).code
theorem codesTo_is {L : List Acc} : ∀ {k : Nat}, codesTo L k = true → (∀ i, i < k → lastC L i < (L.getD i acc0).code)
 | 0, _ => fun i hi => by omega
 | k + 1, h => fun i hi => by
  rw [codes_succ, Bool.and_eq_true, decide_eq_true_eq] at h
  rcases Nat.lt_or_ge i k with h1 | h1
  ·exact codesTo_is h.1 i h1
  ·obtain rfl : i = k := by omega
   exact h.2
theorem codesTo_srt {L : List Acc} (h : codesTo L L.length = true) : Srt L := by
 have h1 := codesTo_is h
 have h2 : ∀ j, j < L.length → 1 ≤ (L.getD j acc0).code ∧ ∀ i, i < j → (L.getD i acc0).code < (L.getD j acc0).code := by
  intro j
  induction j with
  | zero =>
   intro hj
   have := h1 0 hj
   simp only [lastC] at this
   exact ⟨by omega, fun i hi => by omega⟩
  | succ j ih =>
   intro hj
   have h3 := h1 (j + 1) hj
   obtain ⟨h4, h5⟩ := ih (by omega)
   rw [lastC_succ] at h3
   refine ⟨by omega, fun i hi => ?_⟩
   rcases Nat.lt_or_ge i j with h6 | h6
   ·have := h5 i h6; omega
   ·obtain rfl : i = j := by omega
    exact h3
 exact ⟨fun i hi => (h2 i hi).1, fun i j hij hj => (h2 j hj).2 i hij⟩
theorem codesB_srt {L : List Acc} (h : codesB L = true) : Srt L := by
 unfold codesB at h; rw [Bool.and_eq_true] at h; exact codesTo_srt h.1
theorem Srt.inj {L : List Acc} (h : Srt L) {i j : Nat} (hi : i < L.length) (hj : j < L.length) (e : (L.getD i acc0).code = (L.getD j acc0).code) : i = j := by
 rcases Nat.lt_trichotomy i j with h1 | h1 | h1
 ·have := h.mono i j h1 hj; omega
 ·exact h1
 ·have := h.mono j i h1 hi; omega
theorem Srt.fnd_at {L : List Acc} (h : Srt L) {i : Nat} (hi : i < L.length) : fnd L (L.getD i acc0).code = some (L.getD i acc0) := by
 obtain ⟨b, hb⟩ := fnd_is (getD_mem_acc (d := acc0) hi)
 obtain ⟨h1, h2⟩ := fnd_some hb
 obtain ⟨j, hj, rfl⟩ := mem_getD_acc (d := acc0) h1
 obtain rfl := h.inj hj hi h2
 exact hb
theorem Srt.fnd_mem {L : List Acc} (h : Srt L) {a : Acc} (ha : a ∈ L) : fnd L a.code = some a := by
 obtain ⟨i, hi, rfl⟩ := mem_getD_acc (d := acc0) ha
 exact h.fnd_at hi
theorem Srt.fnd_zero {L : List Acc} (h : Srt L) : fnd L 0 = none := by
 rw [fnd_none]
 intro a ha e
 obtain ⟨i, hi, rfl⟩ := mem_getD_acc (d := acc0) ha
 have := h.pos i hi
 omega
theorem Srt.cut {L : List Acc} (h : Srt L) {c : Int} {m : Nat} (hm : m ≤ L.length) (h1 : ∀ t, t < m → (L.getD t acc0).code < c) (h2 : ∀ t, m ≤ t → t < L.length → c ≤ (L.getD t acc0).code) :
  (m < L.length ∧ (L.getD m acc0).code = c ∧ fnd L c = some (L.getD m acc0)) ∨ ((m = L.length ∨ (m < L.length ∧ c < (L.getD m acc0).code)) ∧ fnd L c = none) := by
 rcases Nat.lt_or_ge m L.length with h3 | h3
 ·rcases Int.lt_or_le c (L.getD m acc0).code with h4 | h4
  ·refine .inr ⟨.inr ⟨h3, h4⟩, ?_⟩
   rw [fnd_none]
   intro a ha e
   obtain ⟨i, hi, rfl⟩ := mem_getD_acc (d := acc0) ha
   rcases Nat.lt_or_ge i m with h5 | h5
   ·have := h1 i h5; omega
   ·rcases Nat.lt_or_ge m i with h6 | h6
    ·have := h.mono m i h6 hi; omega
    ·obtain rfl : i = m := by omega
     omega
  ·have h5 := h2 m (Nat.le_refl _) h3
   have h6 : (L.getD m acc0).code = c := by omega
   exact .inl ⟨h3, h6, by rw [← h6]; exact h.fnd_at h3⟩
 ·refine .inr ⟨.inl (by omega), ?_⟩
  rw [fnd_none]
  intro a ha e
  obtain ⟨i, hi, rfl⟩ := mem_getD_acc (d := acc0) ha
  have := h1 i (by omega); omega
def loB (g : Bool) : Int := if g then 1 else 0
def hiB (g : Bool) : Int := if g then 3 else 0
def kinB (g : Bool) (a : Acc) : Bool := decide (1 ≤ a.kind) && decide (a.kind ≤ 5) && decide (loB g ≤ a.basis) && decide (a.basis ≤ hiB g)
theorem kinB_is {g : Bool} {a : Acc} (h : kinB g a = true) : 1 ≤ a.kind ∧ a.kind ≤ 5 ∧ loB g ≤ a.basis ∧ a.basis ≤ hiB g := by
 unfold kinB at h; simp only [Bool.and_eq_true, decide_eq_true_eq] at h; exact ⟨h.1.1.1, h.1.1.2, h.1.2, h.2⟩
theorem kinB_no {g : Bool} {a : Acc} (h : kinB g a = false) : a.kind < 1 ∨ (1 ≤ a.kind ∧ 5 < a.kind) ∨ (1 ≤ a.kind ∧ a.kind ≤ 5 ∧ a.basis < loB g) ∨ (1 ≤ a.kind ∧ a.kind ≤ 5 ∧ loB g ≤ a.basis ∧ hiB g < a.basis) := by
 rcases Int.lt_or_le a.kind 1 with h1 | h1
 ·exact .inl h1
 rcases Int.lt_or_le 5 a.kind with h2 | h2
 ·exact .inr (.inl ⟨h1, h2⟩)
 rcases Int.lt_or_le a.basis (loB g) with h3 | h3
 ·exact .inr (.inr (.inl ⟨h1, h2, h3⟩))
 rcases Int.lt_or_le (hiB g) a.basis with h4 | h4
 ·exact .inr (.inr (.inr ⟨h1, h2, h3, h4⟩))
 ·unfold kinB at h
  rw [decide_eq_true h1, decide_eq_true h2, decide_eq_true h3, decide_eq_true h4] at h
  cases h
def kindsB (L : List Acc) (g : Bool) : Bool := L.all (kinB g)
def parB (L : List Acc) (a : Acc) : Bool := decide (a.par = 0) || match fnd L a.par with
 | none => false
 | some p => decide (p.kind = a.kind)
def parentsB (L : List Acc) : Bool := L.all (parB L)
def topB (L : List Acc) (a : Acc) : Bool := decide ((climb L a.code).length ≤ L.length)
def topsB (L : List Acc) : Bool := L.all (topB L)
def vB (L : List Acc) (g : Bool) : Bool := decide (L.length ≤ 200) && codesB L && kindsB L g && parentsB L && topsB L
theorem all_false_getD {α : Type} {d : α} {p : α → Bool} {L : List α} {k : Nat} (hk : k < L.length) (h : p (L.getD k d) = false) : L.all p = false := by
 rw [List.all_eq_false]
 exact ⟨_, getD_mem_acc hk, by rw [h]; simp⟩
theorem take_all_getD {α : Type} {d : α} {p : α → Bool} (L : List α) (k : Nat) (h : k < L.length) : (L.take (k + 1)).all p = ((L.take k).all p && p (L.getD k d)) := by
 rw [take_succ_getD (d := d) h, List.all_append]; simp
def cmI (x y : Int) : Int := if x < y then -1 else if y < x then 1 else 0
def fndA (L : List Acc) (c : Int) : Acc := (fnd L c).getD acc0
theorem fnd_take_succ {L : List Acc} {c : Int} {k : Nat} (hk : k < L.length) (h : fnd (L.take k) c = none) : fnd (L.take (k + 1)) c = if (L.getD k acc0).code = c then some (L.getD k acc0) else none := by
 rw [take_succ_getD (d := acc0) hk]
 unfold fnd at h ⊢
 rw [List.find?_append, h]
 simp only [Option.none_or, List.find?_cons, List.find?_nil]
 split <;> split <;> simp_all
theorem fnd_take {L : List Acc} {c : Int} {k : Nat} {a : Acc} (h : fnd (L.take k) c = some a) : fnd L c = some a := by
 unfold fnd at h ⊢
 rw [← List.take_append_drop k L, List.find?_append, h]
 rfl
def amtB (n : Int) : Bool := decide (-1000000000000 ≤ n) && decide (n ≤ 1000000000000)
def prB (L : List Acc) (a : Acc) : Bool := decide (a.par = 0) || match fnd L a.par with
 | none => false
 | some p => decide (p.code ≠ a.code) && decide (p.kind = a.kind)
def properB (L : List Acc) (g : Bool) (a : Acc) : Bool := decide (1 ≤ a.code) && decide (a.code ≤ 99999) && kinB g a && prB L a
def rowB (L : List Acc) (g : Bool) (i : Nat) : Bool := properB L g (L.getD i acc0) && (decide (i = 0) || decide ((L.getD (i - 1) acc0).code < (L.getD i acc0).code)) && topB L (L.getD i acc0)
def rowsTo (L : List Acc) (g : Bool) : Nat → Bool
 | 0 => true
 | k + 1 => rowsTo L g k && rowB L g k
theorem rowsTo_le {L : List Acc} {g : Bool} : ∀ {k m : Nat}, k ≤ m → rowsTo L g m = true → rowsTo L g k = true
  | k, m, h, hm => by
    induction m with
    | zero => obtain rfl : k = 0 := by omega
              exact hm
    | succ m ih =>
      rcases Nat.lt_or_ge k (m + 1) with h1 | h1
      · rw [rowsTo, Bool.and_eq_true] at hm
        exact ih (by omega) hm.1
      · obtain rfl : k = m + 1 := by omega
        exact hm
def rvB (L : List Acc) (g : Bool) : Bool := decide (L.length ≤ 200) && rowsTo L g L.length
theorem rvB_no {L : List Acc} {g : Bool} {k : Nat} (hk : k < L.length) (h : rowB L g k = false) : rvB L g = false := by
 cases h1 : rowsTo L g L.length with
 | false => unfold rvB; rw [h1, Bool.and_false]
 | true =>
  have := rowsTo_le (k := k + 1) (by omega) h1
  rw [rowsTo, h, Bool.and_false] at this; cases this
theorem rowsTo_is {L : List Acc} {g : Bool} : ∀ {k : Nat}, rowsTo L g k = true ↔ ∀ i, i < k → rowB L g i = true
 | 0 => ⟨fun _ i hi => by omega, fun _ => rfl⟩
 | k + 1 => by
  rw [rowsTo, Bool.and_eq_true, rowsTo_is]
  constructor
  ·rintro ⟨h1, h2⟩ i hi
   rcases Nat.lt_or_ge i k with h3 | h3
   ·exact h1 i h3
   ·obtain rfl : i = k := by omega
    exact h2
  ·intro h; exact ⟨fun i hi => h i (by omega), h k (by omega)⟩
theorem parB_is {L : List Acc} {a : Acc} : parB L a = true ↔ a.par = 0 ∨ ∃ p, fnd L a.par = some p ∧ p.kind = a.kind := by
 unfold parB
 cases fnd L a.par with
 | none => simp
 | some p => simp
theorem prB_is {L : List Acc} {a : Acc} : prB L a = true ↔ a.par = 0 ∨ ∃ p, fnd L a.par = some p ∧ p.code ≠ a.code ∧ p.kind = a.kind := by
 unfold prB
 cases fnd L a.par with
 | none => simp
 | some p => simp
theorem topB_is {L : List Acc} {a : Acc} : topB L a = true ↔ Ends L a.code := by unfold topB; rw [decide_eq_true_eq]; exact ends_iff
theorem vB_eq (L : List Acc) (g : Bool) : vB L g = rvB L g := by
 rw [Bool.eq_iff_iff]
 unfold vB rvB kindsB parentsB topsB
 simp only [Bool.and_eq_true, decide_eq_true_eq]
 rw [rowsTo_is]
 constructor
 ·rintro ⟨⟨⟨⟨h0, hc⟩, hk⟩, hp⟩, ht⟩
  refine ⟨h0, fun i hi => ?_⟩
  have hs := codesB_srt hc
  have hm := getD_mem_acc (d := acc0) hi
  unfold rowB properB
  simp only [Bool.and_eq_true, Bool.or_eq_true, decide_eq_true_eq]
  rw [List.all_eq_true] at hk hp ht
  have h1 := ht _ hm
  refine ⟨⟨⟨⟨⟨hs.pos i hi, ?_⟩, hk _ hm⟩, ?_⟩, ?_⟩, h1⟩
  ·unfold codesB at hc
   rw [Bool.and_eq_true, decide_eq_true_eq] at hc
   have h2 := hc.2
   rcases Nat.lt_or_ge i (L.length - 1) with h3 | h3
   ·have h4 := hs.mono i (L.length - 1) h3 (by omega)
    have h5 : lastC L L.length = (L.getD (L.length - 1) acc0).code := by
     obtain ⟨n, hn⟩ : ∃ n, L.length = n + 1 := ⟨L.length - 1, by omega⟩
     rw [hn]; rfl
    rw [h5] at h2; omega
   ·obtain ⟨n, hn⟩ : ∃ n, L.length = n + 1 := ⟨L.length - 1, by omega⟩
    obtain rfl : i = n := by omega
    rw [hn] at h2; exact h2
  ·rw [prB_is]
   rcases parB_is.1 (hp _ hm) with h2 | ⟨p, h2, h3⟩
   ·exact .inl h2
   ·refine .inr ⟨p, h2, fun e => ?_, h3⟩
    have h4 := (fnd_some h2).2
    have h5 : stepN L 1 (L.getD i acc0).code = some (L.getD i acc0).code := by
     simp only [stepN, hs.fnd_at hi]
     rw [← h4, e]
    exact loop_no_end h5 (topB_is.1 h1)
  ·rcases Nat.eq_zero_or_pos i with h2 | h2
   ·exact .inl h2
   ·exact .inr (hs.mono (i - 1) i (by omega) hi)
 ·rintro ⟨h0, hr⟩
  have hr2 : ∀ i, i < L.length → (properB L g (L.getD i acc0) = true ∧ (i = 0 ∨ (L.getD (i - 1) acc0).code < (L.getD i acc0).code)) ∧ topB L (L.getD i acc0) = true := by
   intro i hi
   have := hr i hi
   unfold rowB at this
   simpa only [Bool.and_eq_true, Bool.or_eq_true, decide_eq_true_eq] using this
  have hp2 : ∀ i, i < L.length → ((1 ≤ (L.getD i acc0).code ∧ (L.getD i acc0).code ≤ 99999) ∧ kinB g (L.getD i acc0) = true) ∧ prB L (L.getD i acc0) = true := by
   intro i hi
   have := (hr2 i hi).1.1
   unfold properB at this
   simpa only [Bool.and_eq_true, decide_eq_true_eq] using this
  refine ⟨⟨⟨⟨h0, ?_⟩, ?_⟩, ?_⟩, ?_⟩
  ·unfold codesB
   rw [Bool.and_eq_true, decide_eq_true_eq]
   have hct : ∀ k, k ≤ L.length → codesTo L k = true := by
    intro k
    induction k with
    | zero => intro _; rfl
    | succ k ih =>
     intro hk
     rw [codes_succ, ih (by omega), Bool.true_and, decide_eq_true_eq]
     cases k with
     | zero => have := (hp2 0 (by omega)).1.1.1; simp only [lastC]; omega
     | succ k =>
      rw [lastC_succ]
      rcases (hr2 (k + 1) (by omega)).1.2 with h1 | h1
      ·omega
      ·exact h1
   refine ⟨hct _ (Nat.le_refl _), ?_⟩
   rcases Nat.eq_zero_or_pos L.length with h1 | h1
   ·rw [h1]; simp [lastC]
   ·obtain ⟨n, hn⟩ : ∃ n, L.length = n + 1 := ⟨L.length - 1, by omega⟩
    rw [hn, lastC_succ]
    exact (hp2 n (by omega)).1.1.2
  ·rw [all_getD (d := acc0)]; intro i hi; exact (hp2 i hi).1.2
  ·rw [all_getD (d := acc0)]
   intro i hi
   rw [parB_is]
   rcases prB_is.1 (hp2 i hi).2 with h1 | ⟨p, h1, _, h3⟩
   ·exact .inl h1
   ·exact .inr ⟨p, h1, h3⟩
  ·rw [all_getD (d := acc0)]; intro i hi; exact (hr2 i hi).2
open Go.RowKit
abbrev accV (a : Acc) : Value := .agg #[.int .i64 a.code, .int .i64 a.kind, .int .i64 a.basis, .int .i64 a.par]
structure A4 (w : World) (b o : Nat) (a : Acc) : Prop where
 c0 : w.cell? ⟨b, o, none⟩ = some (.int .i64 a.code)
 c1 : w.cell? ⟨b, o + 1, none⟩ = some (.int .i64 a.kind)
 c2 : w.cell? ⟨b, o + 2, none⟩ = some (.int .i64 a.basis)
 c3 : w.cell? ⟨b, o + 3, none⟩ = some (.int .i64 a.par)
def AccAt (w : World) (A : Option Addr) (L : List Acc) : Prop := 0 < L.length → ∃ b off, A = some ⟨b, off, none⟩ ∧ b < w.heap.size ∧ ∀ i, i < L.length → A4 w b (off + i * 4) (L.getD i acc0)
structure AB (w : World) (g : Nat) (a : Acc) : Prop where
 cells : A4 w g 0 a
 lt : g < w.heap.size
 fz : ∀ i, w.frozen? ⟨g, i, none⟩ = false
section
variable {w w' : World} {b o g B : Nat} {a : Acc} {x : Bal} {A : Option Addr} {L : List Acc} {M : List Bal}
theorem A4.up (h : A4 w b o a) (hb : Below B w w') (hlt : b < B) : A4 w' b o a :=
 ⟨(hb.cell (p := ⟨b, o, none⟩) hlt).trans h.c0, (hb.cell (p := ⟨b, o + 1, none⟩) hlt).trans h.c1, (hb.cell (p := ⟨b, o + 2, none⟩) hlt).trans h.c2, (hb.cell (p := ⟨b, o + 3, none⟩) hlt).trans h.c3⟩
theorem AccAt.up (h : AccAt w A L) (hb : Below w.heap.size w w') : AccAt w' A L := fun h0 => by
 obtain ⟨b, off, e, hlt, hc⟩ := h h0
 exact ⟨b, off, e, Nat.lt_of_lt_of_le hlt hb.size, fun i hi => (hc i hi).up hb hlt⟩
theorem AB.up (h : AB w g a) (hb : Below w.heap.size w w') : AB w' g a :=
 ⟨h.cells.up hb h.lt, Nat.lt_of_lt_of_le h.lt hb.size, fun i => (hb.frozen (p := ⟨g, i, none⟩) h.lt).trans (h.fz i)⟩
end
theorem ab_new (w : World) (t : TypeId) (a : Acc) : AB (w.alloc (.cells #[.int .i64 a.code, .int .i64 a.kind, .int .i64 a.basis, .int .i64 a.par] t)) w.heap.size a := by
 refine ⟨⟨?_, ?_, ?_, ?_⟩, by simp, fun i => by simp only [World.frozen?]; rw [heap_alloc_new]; simp⟩ <;> (simp only [World.cell?]; rw [heap_alloc_new]; rfl)
def SlI (w : World) (v : Value) (L : List Int) : Prop := ∃ A c, v = .slice A L.length c ∧ IntsAt .i64 w A L
theorem OwnI.sli {e : TypeId} {w : World} {base : Nat} {v : Value} {L : List Int} (h : OwnI .i64 e w base v L) : SlI w v L := h.ints
theorem wpList_append_ik {P : Program} (w : World) {ops : Array Oper} {rest : List Oper} {o : Oper} {a : Act} {Q : Exit → Act → World → Prop} (hgd : o.guard = none) (s x : Operand) (t : TypeId)
  (ho : o.op = .call { callee := .builtin .append, args := #[s, x], argTypes := #[t, t] })
  (k : IntKind) (base : Nat) (e : TypeId) (i : TypeInfo) (bytes : Nat) (ht : P.underlying t = some (.slice e)) (hi : P.info? e = some i) (hz : i.zero = some (.int k 0))
  (hsize : i.size = 1) (hby : i.bytes = bytes) (hb8 : bytes ≤ 8)
  (v : Value) (L : List Int) (hs : a.eval s = v) (hown : OwnI k e w base v L) (X : Int) (g c : Nat) (hg : g = w.heap.size) (hx : a.eval x = .slice (some ⟨g, 0, none⟩) 1 c)
  (hlen : L.length ≤ 100000000) (hbase : base ≤ w.heap.size)
  (h : ∀ v' w', Hid (OwnI k e w' base v' (L ++ [X])) → Below base w w' → Hid (∀ b, b < w.heap.size → v.ownBlock ≠ some b → w'.heap[b]? = w.heap[b]?) → wpList P ops Q rest (a.put o.dst v') w') : wpList P ops Q (o :: rest) a (w.alloc (.cells #[.int k X] e)) := by
 subst hg
 refine wpList_append_own (w.alloc (.cells #[.int k X] e)) hgd s x t ho base e i (.int k 0) 1 bytes ht hi hz hsize hby rfl (by decide) v L.length (L.map fun d => Value.int k d) hs (World.ownsRow.alloc hown _)
  ⟨w.heap.size, 0, none⟩ 1 c [.int k X] hx rfl ?_ ?_ ?_ ?_ ?_ ?_
 ·intro j u hj
  match j, hj with
  | 0, hj =>
   simp at hj; subst hj
   unfold World.cell? Addr.add
   rw [if_pos rfl]
   dsimp only
   rw [heap_alloc_new]
   rfl
 ·intro u hu; simp at hu; subst hu; rfl
 ·unfold maxLen; omega
 ·have : (L.length + 1) * bytes ≤ (L.length + 1) * 8 := Nat.mul_le_mul_left _ hb8
  omega
 ·simp; omega
 ·intro v' w' h1 h2 _
  refine h v' w' ?_ ?_ ?_
  ·show World.ownsRow _ _ _ _ _ _ _
   rw [List.length_append, List.map_append]
   exact h1
  ·refine ((Below.refl base w).alloc hbase _).grown h2 (by simp; omega) (fun j hj => ?_)
   exact (World.ownsRow.lt hown j hj).1
  ·intro b hb hne
   rw [h2.block b (by simp; omega) (Ne.symm hne)]
   exact Below.heap_alloc w _ b hb
theorem OwnI.ne_new {k : IntKind} {e : TypeId} {w : World} {base : Nat} {v : Value} {L : List Int} (h : OwnI k e w base v L) {b : Nat} (hb : w.heap.size ≤ b) : v.ownBlock ≠ some b := fun e9 => by
 have := (World.ownsRow.lt h _ e9).2
 omega
theorem AB.blk {w w' : World} {g : Nat} {a : Acc} (h : AB w g a) (hk : w'.heap[g]? = w.heap[g]?) : AB w' g a := by
 have hc : ∀ i, w'.cell? ⟨g, i, none⟩ = w.cell? ⟨g, i, none⟩ := fun i => World.cell?_of_block hk
 refine ⟨⟨(hc _).trans h.cells.c0, (hc _).trans h.cells.c1, (hc _).trans h.cells.c2, (hc _).trans h.cells.c3⟩, ?_, fun i => ?_⟩
 ·rcases Nat.lt_or_ge g w'.heap.size with h1 | h1
  ·exact h1
  ·rw [Array.getElem?_eq_none h1] at hk
   have := hk.symm
   rw [Array.getElem?_eq_none_iff] at this
   have := h.lt; omega
 ·have := h.fz i
  unfold World.frozen? at this ⊢
  dsimp only at this ⊢
  rw [hk]; exact this
open Go.ChangeShapes Go.WideShapes Go.ChangeAt Go.WideMaps Go.WideElems Go.RowKit Go.Deep
def cellNum : Option Value → Int
 | some (.int _ z) => z
 | _ => 0
def lpB (y : Int) : Bool := decide (y % 4 = 0) && (decide (y % 100 ≠ 0) || decide (y % 400 = 0))
def lpI (y : Int) : Int := if lpB y then 1 else 0
def mdy (y m : Int) : Int := if m = 2 then 28 + lpI y else if m = 4 ∨ m = 6 ∨ m = 9 ∨ m = 11 then 30 else 31
def inYM (y m : Int) : Bool := decide (1900 ≤ y) && decide (y ≤ 2199) && decide (1 ≤ m) && decide (m ≤ 12)
def dys (y m : Int) : Int := if inYM y m then mdy y m else 0
def lpN (y : Int) : Int := (y - 1) / 4 - (y - 1) / 100 + (y - 1) / 400
def nyr (y : Int) : Int := -25567 + 365 * (y - 1900) + lpN y - 460
def mon (y m : Int) : Int := if m ≤ 1 then 0 else if m = 2 then 31 else (if m = 3 then 59 else if m = 4 then 90 else if m = 5 then 120 else if m = 6 then 151 else if m = 7 then 181 else if m = 8 then 212 else if m = 9 then 243 else if m = 10 then 273 else if m = 11 then 304 else if m = 12 then 334 else 365) + lpI y
def dno (y m d : Int) : Int := nyr y + mon y m + d - 1
theorem lpB_iff (y : Int) : lpB y = true ↔ y % 4 = 0 ∧ (y % 100 ≠ 0 ∨ y % 400 = 0) := by simp [lpB]
theorem lpI_01 (y : Int) : lpI y = 0 ∨ lpI y = 1 := by unfold lpI; split <;> simp
theorem inYM_iff {y m : Int} : inYM y m = true ↔ 1900 ≤ y ∧ y ≤ 2199 ∧ 1 ≤ m ∧ m ≤ 12 := by simp [inYM, and_assoc]
theorem nyr_succ (y : Int) (_h0 : 1900 ≤ y) : nyr (y + 1) = nyr y + 365 + lpI y := by
 unfold nyr lpN
 by_cases h : lpB y = true
 ·have h1 := (lpB_iff y).1 h
  rw [show lpI y = 1 by rw [lpI, if_pos h]]
  omega
 ·have h1 : ¬ (y % 4 = 0 ∧ (y % 100 ≠ 0 ∨ y % 400 = 0)) := fun e => h ((lpB_iff y).2 e)
  rw [show lpI y = 0 by rw [lpI, if_neg h]]
  omega
theorem nyr_1900 : nyr 1900 = -25567 := by decide
theorem nyr_2200 : nyr 2200 = 84006 := by decide
theorem nyr_step (y : Int) (k : Nat) (h0 : 1900 ≤ y) : nyr y + 365 * k ≤ nyr (y + k) := by
 induction k with
 | zero => simp
 | succ k ih =>
  have h1 := nyr_succ (y + k) (by omega)
  have h2 := lpI_01 (y + k)
  rw [show y + ((k + 1 : Nat) : Int) = y + k + 1 by omega, h1]
  omega
theorem nyr_mono {y z : Int} (h0 : 1900 ≤ y) (h : y ≤ z) : nyr y + 365 * (z - y) ≤ nyr z := by
 have h1 := nyr_step y (z - y).toNat h0
 have h2 : ((z - y).toNat : Int) = z - y := Int.toNat_of_nonneg (by omega)
 rw [h2, show y + (z - y) = z by omega] at h1
 exact h1
theorem nyr_bd {y : Int} (h0 : 1900 ≤ y) (h1 : y ≤ 2200) : -25567 ≤ nyr y ∧ nyr y ≤ 84006 := by
 have h2 := nyr_mono (Int.le_refl 1900) h0
 have h3 := nyr_mono h0 h1
 rw [nyr_1900] at h2
 rw [nyr_2200] at h3
 omega
theorem mdy_bd (y m : Int) : 28 ≤ mdy y m ∧ mdy y m ≤ 31 := by
 have := lpI_01 y
 unfold mdy
 split <;> (try split) <;> omega
theorem twelve {m : Int} (h0 : 1 ≤ m) (h1 : m ≤ 12) : m = 1 ∨ m = 2 ∨ m = 3 ∨ m = 4 ∨ m = 5 ∨ m = 6 ∨ m = 7 ∨ m = 8 ∨ m = 9 ∨ m = 10 ∨ m = 11 ∨ m = 12 := by omega
theorem mon_1 (y : Int) : mon y 1 = 0 := rfl
theorem mon_13 (y : Int) : mon y 13 = 365 + lpI y := rfl
theorem mon_succ (y m : Int) (h0 : 1 ≤ m) (h1 : m ≤ 12) : mon y (m + 1) = mon y m + mdy y m := by
 rcases twelve h0 h1 with rfl | rfl | rfl | rfl | rfl | rfl | rfl | rfl | rfl | rfl | rfl | rfl <;> simp [mon, mdy] <;> omega
theorem mon_step (y m : Int) (k : Nat) (h0 : 1 ≤ m) (h1 : m + k ≤ 13) : mon y m + 28 * k ≤ mon y (m + k) := by
 induction k with
 | zero => simp
 | succ k ih =>
  have h2 := mon_succ y (m + k) (by omega) (by omega)
  have h3 := mdy_bd y (m + k)
  have h4 := ih (by omega)
  rw [show m + ((k + 1 : Nat) : Int) = m + k + 1 by omega, h2]
  omega
theorem mon_mono {y m n : Int} (h0 : 1 ≤ m) (h : m ≤ n) (h1 : n ≤ 13) : mon y m + 28 * (n - m) ≤ mon y n := by
 have h2 : ((n - m).toNat : Int) = n - m := Int.toNat_of_nonneg (by omega)
 have h3 := mon_step y m (n - m).toNat h0 (by omega)
 rw [h2, show m + (n - m) = n by omega] at h3
 exact h3
theorem mon_bd {y m : Int} (h0 : 1 ≤ m) (h1 : m ≤ 13) : 0 ≤ mon y m ∧ mon y m ≤ 365 + lpI y := by
 have h2 := mon_mono (y := y) (Int.le_refl 1) h0 h1
 have h3 := mon_mono (y := y) h0 h1 (Int.le_refl 13)
 rw [mon_1] at h2
 rw [mon_13] at h3
 omega
structure IsCiv (n y m d : Int) : Prop where
 y0 : 1900 ≤ y
 y1 : y ≤ 2199
 m0 : 1 ≤ m
 m1 : m ≤ 12
 d0 : 1 ≤ d
 d1 : d ≤ mdy y m
 eq : n = dno y m d
theorem IsCiv.yr {n y m d : Int} (h : IsCiv n y m d) : nyr y ≤ n ∧ n < nyr (y + 1) := by
 obtain ⟨a, b, c, e, f, g, rfl⟩ := h
 have h1 := nyr_succ y a
 have h2 := mon_succ y m c e
 have h3 := mon_bd (y := y) (m := m + 1) (by omega) (by omega)
 have h4 := mon_bd (y := y) (m := m) (by omega) (by omega)
 unfold dno
 omega
theorem IsCiv.bd {n y m d : Int} (h : IsCiv n y m d) : -25567 ≤ n ∧ n ≤ 84005 := by
 have h1 := h.yr
 have h2 := nyr_bd h.y0 (by have := h.y1; omega)
 have h3 := nyr_bd (y := y + 1) (by have := h.y0; omega) (by have := h.y1; omega)
 omega
theorem IsCiv.uniq {n y m d y' m' d' : Int} (h : IsCiv n y m d) (h' : IsCiv n y' m' d') : y = y' ∧ m = m' ∧ d = d' := by
 have hy := h.yr
 have hy' := h'.yr
 obtain ⟨a, b, c, e, f, g, k⟩ := h
 obtain ⟨a', b', c', e', f', g', k'⟩ := h'
 have e1 : y = y' := by
  rcases Int.lt_trichotomy y y' with hl | hl | hl
  ·have := nyr_mono (y := y + 1) (z := y') (by omega) (by omega); omega
  ·exact hl
  ·have := nyr_mono (y := y' + 1) (z := y) (by omega) (by omega); omega
 subst e1
 unfold dno at k k'
 have s := mon_succ y m c e
 have s' := mon_succ y m' c' e'
 have e2 : m = m' := by
  rcases Int.lt_trichotomy m m' with hl | hl | hl
  ·have := mon_mono (y := y) (m := m + 1) (n := m') (by omega) (by omega) (by omega); omega
  ·exact hl
  ·have := mon_mono (y := y) (m := m' + 1) (n := m) (by omega) (by omega) (by omega); omega
 subst e2
 exact ⟨rfl, rfl, by omega⟩

/- The year, the month and the day of a number of days. -/
def civY0 (n : Int) : Int := 1900 + (n + 25567) / 365
def civY (n : Int) : Int := if n < nyr (civY0 n) then civY0 n - 1 else civY0 n
def civR (n : Int) : Int := n - nyr (civY n)
def monOf (l r : Int) : Int := if r < 31 then 1 else if r < 59 + l then 2 else if r < 90 + l then 3 else if r < 120 + l then 4 else if r < 151 + l then 5 else if r < 181 + l then 6 else if r < 212 + l then 7 else if r < 243 + l then 8 else if r < 273 + l then 9 else if r < 304 + l then 10 else if r < 334 + l then 11 else 12
def civM (n : Int) : Int := monOf (lpI (civY n)) (civR n)
def civD (n : Int) : Int := civR n - mon (civY n) (civM n) + 1
def vdB (n : Int) : Bool := decide (-25567 ≤ n) && decide (n ≤ 84005)
theorem vdB_iff {n : Int} : vdB n = true ↔ -25567 ≤ n ∧ n ≤ 84005 := by simp [vdB]
theorem lpN_bd {y : Int} (h0 : 1900 ≤ y) (h1 : y ≤ 2201) : 460 ≤ lpN y ∧ lpN y ≤ 533 := by unfold lpN; omega
theorem civY_bd {n : Int} (h0 : -25567 ≤ n) (h1 : n ≤ 84005) : 1900 ≤ civY n ∧ civY n ≤ 2199 ∧ nyr (civY n) ≤ n ∧ n < nyr (civY n + 1) := by
 unfold civY
 have e : civY0 n = 1900 + (n + 25567) / 365 := rfl
 have hk0 : 1900 ≤ civY0 n := by omega
 have hk1 : civY0 n ≤ 2200 := by omega
 have b0 := lpN_bd hk0 (by omega)
 have u : nyr (civY0 n) = -25567 + 365 * (civY0 n - 1900) + lpN (civY0 n) - 460 := rfl
 split
 ·rename_i hlt
  have hk2 : 1901 ≤ civY0 n := by
   rcases Int.lt_or_le (civY0 n) 1901 with hc | hc
   ·have hc2 : civY0 n = 1900 := by omega
    rw [hc2, nyr_1900] at hlt
    omega
   ·exact hc
  have s := nyr_succ (civY0 n - 1) (by omega)
  rw [show civY0 n - 1 + 1 = civY0 n by omega] at s ⊢
  have l := lpI_01 (civY0 n - 1)
  refine ⟨by omega, by omega, by omega, by omega⟩
 ·rename_i hge
  have s := nyr_succ (civY0 n) (by omega)
  have l := lpI_01 (civY0 n)
  refine ⟨by omega, ?_, by omega, by omega⟩
  rcases Int.lt_or_le 2199 (civY0 n) with hc | hc
  ·have hc2 : civY0 n = 2200 := by omega
   rw [hc2, nyr_2200] at hge
   omega
  ·exact hc
theorem monOf_is {l r : Int} (y : Int) (hl : lpI y = l) (h0 : 0 ≤ r) (h1 : r < 365 + l) : (1 ≤ monOf l r ∧ monOf l r ≤ 12) ∧ mon y (monOf l r) ≤ r ∧ r < mon y (monOf l r) + mdy y (monOf l r) := by
 have h01 := lpI_01 y
 rw [hl] at h01
 unfold monOf
 repeat' split
 all_goals (simp [mon, mdy, hl]; omega)
theorem civ_is {n : Int} (h : vdB n = true) : IsCiv n (civY n) (civM n) (civD n) := by
 obtain ⟨h0, h1⟩ := vdB_iff.1 h
 obtain ⟨a, b, c, d⟩ := civY_bd h0 h1
 have s := nyr_succ (civY n) a
 have r0 : 0 ≤ civR n := by unfold civR; omega
 have r1 : civR n < 365 + lpI (civY n) := by unfold civR; omega
 obtain ⟨⟨m0, m1⟩, k0, k1⟩ := monOf_is (civY n) rfl r0 r1
 have em : civM n = monOf (lpI (civY n)) (civR n) := rfl
 rw [← em] at m0 m1 k0 k1
 have ed : civD n = civR n - mon (civY n) (civM n) + 1 := rfl
 have er : civR n = n - nyr (civY n) := rfl
 refine ⟨a, b, m0, m1, by omega, by omega, ?_⟩
 unfold dno
 omega
theorem civ_eq {n y m d : Int} (h : IsCiv n y m d) : civY n = y ∧ civM n = m ∧ civD n = d :=
 (civ_is (vdB_iff.2 h.bd)).uniq h
def dayB (y m d : Int) : Bool := decide (1 ≤ d) && decide (d ≤ dys y m)
theorem dys_in {y m : Int} (h : inYM y m = true) : dys y m = mdy y m := by rw [dys, if_pos h]
theorem dys_out {y m : Int} (h : inYM y m = false) : dys y m = 0 := by rw [dys, h]; rfl
theorem dys_bd (y m : Int) : 0 ≤ dys y m ∧ dys y m ≤ 31 := by
 have := mdy_bd y m
 unfold dys
 split <;> omega
theorem dayB_iff {y m d : Int} : dayB y m d = true ↔ IsCiv (dno y m d) y m d := by
 unfold dayB
 rw [Bool.and_eq_true, decide_eq_true_eq, decide_eq_true_eq]
 constructor
 ·intro ⟨h0, h1⟩
  cases hi : inYM y m
  ·rw [dys_out hi] at h1; omega
  ·rw [dys_in hi] at h1
   obtain ⟨a, b, c, d⟩ := inYM_iff.1 hi
   exact ⟨a, b, c, d, h0, h1, rfl⟩
 ·intro h
  have hi : inYM y m = true := inYM_iff.2 ⟨h.y0, h.y1, h.m0, h.m1⟩
  rw [dys_in hi]
  exact ⟨h.d0, h.d1⟩
theorem dayB_of {n y m d : Int} (h : IsCiv n y m d) : dayB y m d = true := dayB_iff.2 (by have := h.eq; subst this; exact h)
/- What Of answers. -/
def ofN (y m d : Int) : Int := if dayB y m d then dno y m d else 0
def ofE (y m d : Int) : Int := if dayB y m d then 0 else 2
open Go.RowKit
structure Lnk where
 frm : Int
 tgt : Int
 since : Int
abbrev lnk0 : Lnk := ⟨0, 0, 0⟩
abbrev lnkV (l : Lnk) : Value := .agg #[.int .i64 l.frm, .int .i64 l.tgt, .int .i64 l.since]
structure L3 (w : World) (b o : Nat) (l : Lnk) : Prop where
 c0 : w.cell? ⟨b, o, none⟩ = some (.int .i64 l.frm)
 c1 : w.cell? ⟨b, o + 1, none⟩ = some (.int .i64 l.tgt)
 c2 : w.cell? ⟨b, o + 2, none⟩ = some (.int .i64 l.since)
def LnkAt (w : World) (A : Option Addr) (L : List Lnk) : Prop := 0 < L.length → ∃ b off, A = some ⟨b, off, none⟩ ∧ b < w.heap.size ∧ ∀ i, i < L.length → L3 w b (off + i * 3) (L.getD i lnk0)
structure LB (w : World) (g : Nat) (l : Lnk) : Prop where
 cells : L3 w g 0 l
 lt : g < w.heap.size
abbrev entV (nm cur : ByteArray) (A : Option Addr) (n c : Nat) (B : Option Addr) (m d : Nat) (jt : Bool) : Value := .agg #[.string nm, .string cur, .slice A n c, .slice B m d, .bool jt]
structure EB (w : World) (g : Nat) (nm cur : ByteArray) (A : Option Addr) (n c : Nat) (B : Option Addr) (m d : Nat) (jt : Bool) : Prop where
 c0 : w.cell? ⟨g, 0, none⟩ = some (.string nm)
 c1 : w.cell? ⟨g, 1, none⟩ = some (.string cur)
 c2 : w.cell? ⟨g, 2, none⟩ = some (.slice A n c)
 c3 : w.cell? ⟨g, 3, none⟩ = some (.slice B m d)
 c4 : w.cell? ⟨g, 4, none⟩ = some (.bool jt)
 lt : g < w.heap.size
section
variable {w w' : World} {b o g Bs m d n c : Nat} {l : Lnk} {A B : Option Addr} {L : List Lnk} {nm cur : ByteArray} {jt : Bool}
theorem L3.up (h : L3 w b o l) (hb : Below Bs w w') (hlt : b < Bs) : L3 w' b o l :=
 ⟨(hb.cell (p := ⟨b, o, none⟩) hlt).trans h.c0, (hb.cell (p := ⟨b, o + 1, none⟩) hlt).trans h.c1, (hb.cell (p := ⟨b, o + 2, none⟩) hlt).trans h.c2⟩
theorem LnkAt.up (h : LnkAt w A L) (hb : Below w.heap.size w w') : LnkAt w' A L := fun h0 => by
 obtain ⟨b, off, e, hlt, hc⟩ := h h0
 exact ⟨b, off, e, Nat.lt_of_lt_of_le hlt hb.size, fun i hi => (hc i hi).up hb hlt⟩
theorem LnkAt.nil : LnkAt w A [] := fun h => absurd h (by simp)
theorem LB.up (h : LB w g l) (hb : Below w.heap.size w w') : LB w' g l := ⟨h.cells.up hb h.lt, Nat.lt_of_lt_of_le h.lt hb.size⟩
theorem EB.up (h : EB w g nm cur A n c B m d jt) (hb : Below w.heap.size w w') : EB w' g nm cur A n c B m d jt :=
 ⟨(hb.cell (p := ⟨g, 0, none⟩) h.lt).trans h.c0, (hb.cell (p := ⟨g, 1, none⟩) h.lt).trans h.c1, (hb.cell (p := ⟨g, 2, none⟩) h.lt).trans h.c2, (hb.cell (p := ⟨g, 3, none⟩) h.lt).trans h.c3, (hb.cell (p := ⟨g, 4, none⟩) h.lt).trans h.c4, Nat.lt_of_lt_of_le h.lt hb.size⟩
end
theorem lb_new (w : World) (t : TypeId) (l : Lnk) : LB (w.alloc (.cells #[.int .i64 l.frm, .int .i64 l.tgt, .int .i64 l.since] t)) w.heap.size l := by
 refine ⟨⟨?_, ?_, ?_⟩, by simp⟩ <;> (simp only [World.cell?]; rw [heap_alloc_new]; rfl)
theorem eb_new (w : World) (t : TypeId) (nm cur : ByteArray) (A : Option Addr) (n c : Nat) (B : Option Addr) (m d : Nat) (jt : Bool) :
  EB (w.alloc (.cells #[.string nm, .string cur, .slice A n c, .slice B m d, .bool jt] t)) w.heap.size nm cur A n c B m d jt := by
 refine ⟨?_, ?_, ?_, ?_, ?_, by simp⟩ <;> (simp only [World.cell?]; rw [heap_alloc_new]; rfl)
open Go.RowKit
def celL (a : Lnk) : List Value := [.int .i64 a.frm, .int .i64 a.tgt, .int .i64 a.since]
def OwnL (e : TypeId) (w : World) (base : Nat) (v : Value) (L : List Lnk) : Prop := w.ownsRow base e 3 v L.length (L.flatMap celL)
theorem celL_get : ∀ (L : List Lnk) (i : Nat), i < L.length → (L.flatMap celL)[i * 3]? = some (.int .i64 (L.getD i lnk0).frm) ∧ (L.flatMap celL)[i * 3 + 1]? = some (.int .i64 (L.getD i lnk0).tgt) ∧ (L.flatMap celL)[i * 3 + 2]? = some (.int .i64 (L.getD i lnk0).since)
 | [], i, h => by simp at h
 | a :: L, 0, _ => by simp [celL]
 | a :: L, i + 1, h => by
  have := celL_get L i (by simpa using h)
  have e1 : (i + 1) * 3 = i * 3 + 1 + 1 + 1 := by omega
  rw [List.flatMap_cons, e1]
  simpa [celL] using this
theorem OwnL.nil {e : TypeId} {w : World} {base : Nat} : OwnL e w base (.slice none 0 0) [] := World.ownsRow_nil _ _ _ _
theorem OwnL.alloc {e : TypeId} {w : World} {base : Nat} {v : Value} {L : List Lnk} (h : OwnL e w base v L) (o : Obj) : OwnL e (w.alloc o) base v L := World.ownsRow.alloc h o
theorem OwnL.reads {e : TypeId} {w : World} {base : Nat} {v : Value} {L : List Lnk} (h : OwnL e w base v L) : ∃ A c, v = .slice A L.length c ∧ LnkAt w A L := by
 obtain ⟨h1, h2⟩ := h
 rcases h2 with ⟨rfl, h0⟩ | ⟨g, cap, cur, rfl, hbg, hg, hn, hcap, hsz, hcur⟩
 ·obtain rfl : L = [] := List.eq_nil_of_length_eq_zero h0
  exact ⟨none, 0, rfl, fun h => absurd h (by simp)⟩
 ·refine ⟨_, cap, rfl, fun _ => ⟨g, 0, rfl, ?_, fun j hj => ?_⟩⟩
  ·rcases Nat.lt_or_ge g w.heap.size with hlt | hge
   ·exact hlt
   ·rw [Array.getElem?_eq_none hge] at hg; cases hg
  ·have key : ∀ i, i < L.length * 3 → w.cell? ⟨g, i, none⟩ = (L.flatMap celL)[i]? := by
    intro i hi
    rw [← hcur, List.getElem?_take, if_pos hi]
    simp only [World.cell?, hg]
    simp
   obtain ⟨k0, k1, k2⟩ := celL_get L j hj
   exact ⟨by rw [Nat.zero_add, key _ (by omega)]; exact k0, by rw [Nat.zero_add, key _ (by omega)]; exact k1, by rw [Nat.zero_add, key _ (by omega)]; exact k2⟩
theorem wpList_append_lk {P : Program} (w : World) {ops : Array Oper} {rest : List Oper} {o : Oper} {a : Act} {Q : Exit → Act → World → Prop} (hgd : o.guard = none) (s x : Operand) (t : TypeId)
  (ho : o.op = .call { callee := .builtin .append, args := #[s, x], argTypes := #[t, t] })
  (base : Nat) (e : TypeId) (i : TypeInfo) (bytes : Nat) (ht : P.underlying t = some (.slice e)) (hi : P.info? e = some i) (hz : i.zero = some (.agg #[.int .i64 0, .int .i64 0, .int .i64 0]))
  (hsize : i.size = 3) (hby : i.bytes = bytes) (hb8 : bytes ≤ 24)
  (v : Value) (L : List Lnk) (hs : a.eval s = v) (hown : OwnL e w base v L) (X : Lnk) (g c : Nat) (hg : g = w.heap.size) (hx : a.eval x = .slice (some ⟨g, 0, none⟩) 1 c)
  (hlen : L.length ≤ 100000000) (hbase : base ≤ w.heap.size)
  (h : ∀ v' w', Hid (OwnL e w' base v' (L ++ [X])) → Hid (w.grownBy w' v.ownBlock) → Hid (v'.ownBlock = v.ownBlock ∨ v'.ownBlock = some (w.heap.size + 1)) → Below base w w' → wpList P ops Q rest (a.put o.dst v') w') : wpList P ops Q (o :: rest) a (w.alloc (.cells #[.int .i64 X.frm, .int .i64 X.tgt, .int .i64 X.since] e)) := by
 subst hg
 refine wpList_append_own_at (w.alloc (.cells #[.int .i64 X.frm, .int .i64 X.tgt, .int .i64 X.since] e)) hgd s x t ho base e i (.agg #[.int .i64 0, .int .i64 0, .int .i64 0]) 3 bytes ht hi hz hsize hby rfl (by decide) v L.length (L.flatMap celL) hs (World.ownsRow.alloc hown _)
  ⟨w.heap.size, 0, none⟩ 1 c [.int .i64 X.frm, .int .i64 X.tgt, .int .i64 X.since] hx rfl ?_ ?_ ?_ ?_ ?_ ?_
 ·intro j u hj
  match j, hj with
  | 0, hj =>
   simp at hj; subst hj
   unfold World.cell? Addr.add
   rw [if_pos (by decide)]
   dsimp only
   rw [heap_alloc_new]
   rfl
  | 1, hj =>
   simp at hj; subst hj
   unfold World.cell? Addr.add
   rw [if_neg (by decide)]
   dsimp only
   rw [heap_alloc_new]
   rfl
  | 2, hj =>
   simp at hj; subst hj
   unfold World.cell? Addr.add
   rw [if_neg (by decide)]
   dsimp only
   rw [heap_alloc_new]
   rfl
  | j + 3, hj => simp at hj
 ·intro u hu
  simp at hu
  rcases hu with rfl | rfl | rfl <;> rfl
 ·unfold maxLen; omega
 ·have : (L.length + 1) * bytes ≤ (L.length + 1) * 24 := Nat.mul_le_mul_left _ hb8
  omega
 ·simp; omega
 ·intro v' w' h1 h2 _ h4
  have h5 : w.grownBy w' v.ownBlock := (World.grownBy_alloc w _ v.ownBlock).trans h2
  refine h v' w' ?_ (Lib.hid h5) (Lib.hid (by simpa using h4)) ?_
  ·refine Lib.hid ?_
   show World.ownsRow _ _ _ _ _ _ _
   rw [List.length_append, List.flatMap_append]
   exact h1
  ·refine (Below.refl base w).grown h5 hbase (fun j hj => ?_)
   exact (World.ownsRow.lt hown j hj).1
def celA (a : Acc) : List Value := [.int .i64 a.code, .int .i64 a.kind, .int .i64 a.basis, .int .i64 a.par]
theorem celA_get : ∀ (L : List Acc) (i : Nat), i < L.length → (L.flatMap celA)[i * 4]? = some (.int .i64 (L.getD i acc0).code) ∧ (L.flatMap celA)[i * 4 + 1]? = some (.int .i64 (L.getD i acc0).kind) ∧ (L.flatMap celA)[i * 4 + 2]? = some (.int .i64 (L.getD i acc0).basis) ∧ (L.flatMap celA)[i * 4 + 3]? = some (.int .i64 (L.getD i acc0).par)
 | [], i, h => by simp at h
 | a :: L, 0, _ => by simp [celA]
 | a :: L, i + 1, h => by
  have := celA_get L i (by simpa using h)
  have e1 : (i + 1) * 4 = i * 4 + 1 + 1 + 1 + 1 := by omega
  rw [List.flatMap_cons, e1]
  simpa [celA] using this
theorem below_new {W w : World} (h : Below W.heap.size W w) (o : Obj) : Below W.heap.size W (w.alloc o) := below_more h (below_alloc_new o)
set_option maxRecDepth 20000 in
set_option maxHeartbeats 1600000 in
theorem hcodes_any (A : Option Addr) (c : Nat) (L : List Acc) (w : World) (hz : AccAt w A L) (hl : L.length ≤ 1000) :
  Calls Tryz.prog 101 #[.slice A L.length c] w fun e w' => e = .returned (.bool (codesB L)) ∧ Below w.heap.size w w' := by
 have hB := Below.refl w.heap.size w
 obtain ⟨n, hn⟩ : ∃ n, L.length = n := ⟨_, rfl⟩
 rw [hn] at hl ⊢
 have HN := Lib.hid hn
 have HZ := Lib.hid hz
 clear hn hz
 go_enter Tryz.func101, Tryz.ntmps101
 go_wp2_with fail
 go_loopg [3, 8] n (fun kx s3 s8 wr => ∃ k : Nat, s3 = .int .i64 (lastC L k) ∧ s8 = .int .i64 k ∧ k ≤ n ∧ n - k ≤ kx ∧ Hid (codesTo L k = true) ∧ Below w.heap.size w wr)
 case atStart => exact ⟨0, rfl, rfl, by omega, by omega, Lib.hid rfl, hB⟩
 case round =>
  clear hB
  obtain ⟨k, rfl, rfl, hk, hkx, HC, hB⟩ := hrel
  by_cases hlt : k < n
  ·have hltz : (k : Int) < (n : Int) := by omega
   obtain ⟨b, off, rfl, hbw, hcs⟩ := HZ.out (by rw [HN.out]; omega)
   obtain ⟨c0, c1, c2, c3⟩ := (hcs k (by rw [HN.out]; exact hlt)).up hB hbw
   obtain ⟨x, hx⟩ : ∃ x, L.getD k acc0 = x := ⟨_, rfl⟩
   rw [hx] at c0 c1 c2 c3
   have HX := Lib.hid hx
   clear hx hcs
   rcases Int.lt_or_le (lastC L k) x.code with h1 | h1
   ·have h2 : decide (x.code ≤ lastC L k) = false := decide_eq_false (by omega)
    have HC2 : Hid (codesTo L (k + 1) = true) := Lib.hid (by rw [codes_succ, HC.out, HX.out, decide_eq_true h1]; rfl)
    have HLa : Hid (x.code = lastC L (k + 1)) := Lib.hid (by rw [lastC_succ, HX.out])
    clear h1
    go_wp2_with fail
    go_roundg (n - (k + 1))
    case measure => omega
    case rel => exact ⟨k + 1, by rw [HLa.out], by go_num, by omega, by omega, HC2, below_new hB _⟩
   ·have hno : Hid (codesB L = false) := Lib.hid (codesB_no (k := k) (by rw [HN.out]; exact hlt) (by rw [HX.out]; exact h1))
    have h2 : decide (x.code ≤ lastC L k) = true := decide_eq_true h1
    go_wp2_with fail
    go_ret
    exact ⟨by rw [hno.out]; rfl, below_new hB _⟩
  ·obtain rfl : k = n := by omega
   have hltz : ¬ (k : Int) < (k : Int) := by omega
   have hend : Hid (codesB L = decide (lastC L k ≤ 99999)) := Lib.hid (by rw [codesB_end (by rw [HN.out]; exact HC.out), HN.out])
   generalize lastC L k = z at *
   go_wp2_with fail
   go_ret
   exact ⟨by rw [hend.out]; rfl, hB⟩
set_option maxRecDepth 20000 in
set_option maxHeartbeats 1600000 in
theorem hkinds_any (A : Option Addr) (c : Nat) (L : List Acc) (g : Bool) (w : World) (hz : AccAt w A L) (hl : L.length ≤ 1000) :
    Calls Tryz.prog 102 #[.slice A L.length c, .bool g] w fun e w' => e = .returned (.bool (kindsB L g)) ∧ Below w.heap.size w w' := by
  have hB := Below.refl w.heap.size w
  obtain ⟨n, hn⟩ : ∃ n, L.length = n := ⟨_, rfl⟩
  rw [hn] at hl ⊢
  have HN := Lib.hid hn
  have HZ := Lib.hid hz
  have hlo : loB g = if g then 1 else 0 := rfl
  have hhi : hiB g = if g then 3 else 0 := rfl
  obtain ⟨P, hP⟩ : ∃ P, kinB g = P := ⟨_, rfl⟩
  have hpy : ∀ x, P x = true → 1 ≤ x.kind ∧ x.kind ≤ 5 ∧ loB g ≤ x.basis ∧ x.basis ≤ hiB g := fun x h => kinB_is (by rw [hP]; exact h)
  have hpn : ∀ x, P x = false → x.kind < 1 ∨ (1 ≤ x.kind ∧ 5 < x.kind) ∨ (1 ≤ x.kind ∧ x.kind ≤ 5 ∧ x.basis < loB g) ∨ (1 ≤ x.kind ∧ x.kind ≤ 5 ∧ loB g ≤ x.basis ∧ hiB g < x.basis) := fun x h => kinB_no (by rw [hP]; exact h)
  have hpk : kindsB L g = L.all P := by unfold kindsB; rw [hP]
  rw [hpk]
  have HPY := Lib.hid hpy
  have HPN := Lib.hid hpn
  clear hn hz hP hpy hpn hpk
  cases g
  all_goals
    simp only [Bool.false_eq_true, if_false, if_true] at hlo hhi
    have HLo := Lib.hid hlo
    have HHi := Lib.hid hhi
    clear hlo hhi
    go_enter Tryz.func102, Tryz.ntmps102
    go_wp2_with fail
    go_loopg [12] n (fun kx s12 wr => ∃ k : Nat, s12 = .int .i64 k ∧ k ≤ n ∧ n - k ≤ kx ∧ Hid ((L.take k).all P = true) ∧ Below w.heap.size w wr)
    case atStart => exact ⟨0, rfl, by omega, by omega, Lib.hid rfl, hB⟩
    case round =>
      clear hB
      obtain ⟨k, rfl, hk, hkx, HC, hB⟩ := hrel
      by_cases hlt : k < n
      · have hltz : (k : Int) < (n : Int) := by omega
        obtain ⟨b, off, rfl, hbw, hcs⟩ := HZ.out (by rw [HN.out]; omega)
        obtain ⟨c0, c1, c2, c3⟩ := (hcs k (by rw [HN.out]; exact hlt)).up hB hbw
        obtain ⟨x, hx⟩ : ∃ x, L.getD k acc0 = x := ⟨_, rfl⟩
        rw [hx] at c0 c1 c2 c3
        have HX := Lib.hid hx
        have h9 := take_all_getD (d := acc0) (p := P) L k (by rw [HN.out]; exact hlt)
        rw [hx] at h9
        have H9 := Lib.hid h9
        clear hx hcs h9
        cases hkb : P x
        · have hno : Hid (L.all P = false) := Lib.hid (all_false_getD (d := acc0) (k := k) (by rw [HN.out]; exact hlt) (by rw [HX.out]; exact hkb))
          have h0 := HPN.out _ hkb
          rw [HLo.out, HHi.out] at h0
          clear hkb
          rcases h0 with h1 | ⟨h1, h2⟩ | ⟨h1, h2, h3⟩ | ⟨h1, h2, h3, h4⟩
          · have e1 : decide (x.kind < 1) = true := decide_eq_true h1
            go_wp2_with fail
            go_ret
            exact ⟨by rw [hno.out]; rfl, below_new hB _⟩
          · have e1 : decide (x.kind < 1) = false := decide_eq_false (by omega)
            have e2 : decide (5 < x.kind) = true := decide_eq_true h2
            go_wp2_with fail
            go_ret
            exact ⟨by rw [hno.out]; rfl, below_new hB _⟩
          · have e1 : decide (x.kind < 1) = false := decide_eq_false (by omega)
            have e2 : decide (5 < x.kind) = false := decide_eq_false (by omega)
            first | have e3 : decide (x.basis < 0) = true := decide_eq_true h3 | have e3 : decide (x.basis < 1) = true := decide_eq_true h3
            go_wp2_with fail
            go_ret
            exact ⟨by rw [hno.out]; rfl, below_new hB _⟩
          · have e1 : decide (x.kind < 1) = false := decide_eq_false (by omega)
            have e2 : decide (5 < x.kind) = false := decide_eq_false (by omega)
            first
              | (have e3 : decide (x.basis < 0) = false := decide_eq_false (by omega)
                 have e4 : decide (0 < x.basis) = true := decide_eq_true h4
                 go_wp2_with fail
                 go_ret
                 exact ⟨by rw [hno.out]; rfl, below_new hB _⟩)
              | (have e3 : decide (x.basis < 1) = false := decide_eq_false (by omega)
                 have e4 : decide (3 < x.basis) = true := decide_eq_true h4
                 go_wp2_with fail
                 go_ret
                 exact ⟨by rw [hno.out]; rfl, below_new hB _⟩)
        · have h0 := HPY.out _ hkb
          rw [HLo.out, HHi.out] at h0
          obtain ⟨h1, h2, h3, h4⟩ := h0
          have HC2 : Hid ((L.take (k + 1)).all P = true) := Lib.hid (by rw [H9.out, HC.out, hkb]; rfl)
          have e1 : decide (x.kind < 1) = false := decide_eq_false (by omega)
          have e2 : decide (5 < x.kind) = false := decide_eq_false (by omega)
          have e3 : decide (x.basis < 0) = false := decide_eq_false (by omega)
          have e4 : decide (3 < x.basis) = false := decide_eq_false (by omega)
          first
            | (have e5 : decide (0 < x.basis) = false := decide_eq_false (by omega)
               clear hkb h1 h2 h3 h4
               go_wp2_with fail
               go_roundg (n - (k + 1))
               case measure => omega
               case rel => exact ⟨k + 1, by go_num, by omega, by omega, HC2, below_new hB _⟩)
            | (have e5 : decide (x.basis < 1) = false := decide_eq_false (by omega)
               clear hkb h1 h2 h3 h4
               go_wp2_with fail
               go_roundg (n - (k + 1))
               case measure => omega
               case rel => exact ⟨k + 1, by go_num, by omega, by omega, HC2, below_new hB _⟩)
      · obtain rfl : k = n := by omega
        have hltz : ¬ (k : Int) < (k : Int) := by omega
        have hyes : Hid (L.all P = true) := Lib.hid (by have := HC.out; rwa [List.take_of_length_le (by rw [HN.out]; omega)] at this)
        go_wp2_with fail
        go_ret
        exact ⟨by rw [hyes.out]; rfl, hB⟩
theorem ccmp_any (x y : Int) (w : World) : Calls Tryz.prog 132 #[.int .i64 x, .int .i64 y] w fun e w' => e = .returned (.int .i64 (cmI x y)) ∧ w = w' := by
 have hn : ∀ (x : Int) (w : World), Calls Tryz.prog 136 #[.int .i64 x] w fun e w' => e = .returned (.bool false) ∧ w = w' := by
  intro x w
  have h : (x != x) = false := by simp
  go_enter Tryz.func136, Tryz.ntmps136
  go_wp2_with fail
  go_ret
  exact ⟨rfl, rfl⟩
 have HN := Lib.hid hn
 clear hn
 unfold cmI
 rcases Int.lt_trichotomy x y with h | h | h
 ·rw [if_pos h]
  go_enter Tryz.func132, Tryz.ntmps132
  go_wp2_with (go_at_call 136; refine (HN.out _ _).mono ?_; rintro e w' ⟨rfl, rfl⟩)
  go_ret
  exact ⟨rfl, rfl⟩
 ·subst h
  rw [if_neg (Int.lt_irrefl _), if_neg (Int.lt_irrefl _)]
  have h1 : decide (x < x) = false := decide_eq_false (Int.lt_irrefl _)
  go_enter Tryz.func132, Tryz.ntmps132
  go_wp2_with (go_at_call 136; refine (HN.out _ _).mono ?_; rintro e w' ⟨rfl, rfl⟩)
  go_ret
  exact ⟨rfl, rfl⟩
 ·have h2 : ¬ x < y := by omega
  rw [if_neg h2, if_pos h]
  have h1 : decide (x < y) = false := decide_eq_false (by omega)
  go_enter Tryz.func132, Tryz.ntmps132
  go_wp2_with (go_at_call 136; refine (HN.out _ _).mono ?_; rintro e w' ⟨rfl, rfl⟩)
  go_ret
  exact ⟨rfl, rfl⟩
theorem cidx1_any (a : Acc) (c : Int) (w : World) : Calls Tryz.prog 131 #[accV a, .int .i64 c] w fun e w' => e = .returned (.int .i64 (cmI a.code c)) ∧ Below w.heap.size w w' := by
 have hn := ab_new w 91 a
 obtain ⟨⟨c0, c1, c2, c3⟩, lt, -⟩ := hn
 have hB := below_alloc_new (w := w) (.cells #[.int .i64 a.code, .int .i64 a.kind, .int .i64 a.basis, .int .i64 a.par] 91)
 go_enter Tryz.func131, Tryz.ntmps131
 go_wp2_with (go_at_call 132; refine (ccmp_any _ _ _).mono ?_; rintro e w' ⟨rfl, rfl⟩)
 go_ret
 exact ⟨rfl, hB⟩
end Go.Proofs.YtacmccijnkojeaaGreat
