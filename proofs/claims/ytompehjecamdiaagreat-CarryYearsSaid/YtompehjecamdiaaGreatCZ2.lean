/- Contracts of the functions that the statements reach, part 2: what was proved of each, callees first. -/
import Derived.StillTail
import Derived.Handed
import Derived.ProofKit
import Derived.ChangeSlices
import Derived.OpenShut
import Derived.Carry
import Derived.DeepKeys5
import Derived.WalkKit
import Derived.WalkSpells
import Derived.Lib.Hide
import Derived.Deep.QuietTactic
import Derived.BigQuiet
import Derived.LoopTactic
import Derived.Shelf.SlIterI.Nil
import Derived.Shelf.SortM.Plain
import Derived.Shelf.SortM.SortNone
import Derived.Ground.GgzProg
import Derived.Ground.SlgmProg
import Derived.Shelf.SlGeneric
import Derived.Test.YtompehjecamdiaaGreatProg
import Derived.Test.YtompehjecamdiaaGreatCZ1
namespace Go.Proofs.YtompehjecamdiaaGreat
open Go Go.RowKit
def AS.NoInt (w : World) (b : Nat) : Prop := ∀ j k n, w.cell? ⟨b, j, none⟩ ≠ some (.int k n)
open AS (NoInt)
def Leaf (x : Value) : Prop := ∀ k n, x ≠ .int k n
structure Bx (t : TypeId) (w : World) (g : Nat) (vs : List Value) : Prop where
 blk : w.heap[g]? = some (.cells vs.toArray t (0, 0))
 leaf : ∀ v ∈ vs, Leaf v
section
variable {t : TypeId} {w w' : World} {g : Nat} {vs : List Value}
theorem Bx.lt (h : Bx t w g vs) : g < w.heap.size := by
 rcases Nat.lt_or_ge g w.heap.size with hlt | hge
 ·exact hlt
 ·have := h.blk; rw [Array.getElem?_eq_none hge] at this; cases this
theorem Bx.up (h : Bx t w g vs) (hb : Below w.heap.size w w') : Bx t w' g vs := ⟨(hb.block g h.lt).trans h.blk, h.leaf⟩
theorem hup (h : Hid (Bx t w g vs)) (hb : Below w.heap.size w w') : Hid (Bx t w' g vs) := Lib.hid (h.out.up hb)
end
end Go.Proofs.YtompehjecamdiaaGreat
namespace Go.Proofs.YtompehjecamdiaaGreat.AS
open Go Go.RowKit
open Go.Proofs.YtompehjecamdiaaGreat (fillL upd fillL_size fillL_get fillL_upd fillL_self filter_less none_listed put_fill)
structure Keep (w w' : World) : Prop where
 size : w.heap.size ≤ w'.heap.size
 blk : ∀ i, i < w.heap.size → (∃ j k n, w.cell? ⟨i, j, none⟩ = some (.int k n)) → w'.heap[i]? = w.heap[i]?
 box : ∀ (t : TypeId) (g : Nat) (vs : List Value), 2 ≤ vs.length → Bx t w g vs → ∃ vs' : List Value, vs'.length = vs.length ∧ Bx t w' g vs'
theorem Keep.ofBelow {w w' : World} (h : Below w.heap.size w w') : Keep w w' := ⟨h.size, fun i hi _ => h.block i hi, fun _ _ vs _ hb => ⟨vs, rfl, hb.up h⟩⟩
theorem Keep.cell {w w' : World} (h : Keep w w') {i j : Nat} (hi : i < w.heap.size) {j' : Nat} {k : IntKind} {n : Int} (hc : w.cell? ⟨i, j', none⟩ = some (.int k n)) : w'.cell? ⟨i, j, none⟩ = w.cell? ⟨i, j, none⟩ :=
 World.cell?_of_block (h.blk i hi ⟨j', k, n, hc⟩)
structure Fact where
 p : Value → World → Prop
 st : ∀ v w w', Keep w w' → p v w → p v w'
def Fact.triv : Fact := ⟨fun _ _ => True, fun _ _ _ _ _ => trivial⟩
def Fact.is (x : Value) : Fact := ⟨fun v _ => v = x, fun _ _ _ _ h => h⟩
def look : List (Nat × Fact) → Nat → Fact
 | [], _ => Fact.triv
 | (k, f) :: rest, d => bif Nat.beq k d then f else look rest d
def temps (FL : List (Nat × Fact)) : List Nat := FL.map (·.1)
def factOf (FL : List (Nat × Fact)) (dst : Option Nat) (v : Value) (w : World) : Prop := match dst with
 | none => True
 | some d => (look FL d).p v w
def Facts (FL : List (Nat × Fact)) (u : Nat → Value) (w : World) : List Nat → Prop
 | [] => True
 | d :: ds => (look FL d).p (u d) w ∧ Facts FL u w ds
theorem facts_mk {FL : List (Nat × Fact)} {u : Nat → Value} {w : World} {ds : List Nat} (h : ∀ d ∈ ds, (look FL d).p (u d) w) : Facts FL u w ds := by
 induction ds with
 | nil => trivial
 | cons d ds ih => exact ⟨h d (List.mem_cons_self ..), ih fun e he => h e (List.mem_cons_of_mem _ he)⟩
theorem facts_get {FL : List (Nat × Fact)} {u : Nat → Value} {w : World} {ds : List Nat} (h : Facts FL u w ds) (d : Nat) (hd : d ∈ ds) : (look FL d).p (u d) w := by
 induction ds with
 | nil => cases hd
 | cons e ds ih =>
  rcases List.mem_cons.1 hd with rfl | hd
  ·exact h.1
  ·exact ih h.2 hd
def edgesOk (ops : Array Oper) : Bool := (List.range ops.size).all fun i => match ops[i]? with
 | none => true
 | some o => o.after.all fun e => !Region.binds .any e || decide (e.on < i)
def needsOk (ops : Array Oper) (pt : List (List Nat)) (ds : List Nat) : Bool :=
 (List.range ops.size).all fun i => match ops[i]? with
  | none => true
  | some o => (match o.dst with | some d => ds.contains d | none => true) &&
   (pt.getD i []).all fun d => o.after.any fun e => Region.binds .any e && ((match ops[e.on]? with | some o' => o'.dst == some d | none => false) || (pt.getD e.on []).contains d)
def onceOk (ops : Array Oper) : Bool := (List.range ops.size).all fun i => (List.range ops.size).all fun j => match ops[i]?, ops[j]? with
 | some o, some o' => Nat.beq i j || (match o.dst, o'.dst with | some d, some d' => !Nat.beq d d' | _, _ => true)
 | _, _ => true
def storesOk (ops : Array Oper) (pt : List (List Nat)) (st : List Nat) (js : List (List Nat)) : Bool :=
 (List.range st.length).all fun m => decide (st.getD m 0 < ops.size) && (match ops[st.getD m 0]? with | some o => o.dst == none | none => false) &&
  (Nat.beq m 0 || Region.waitsFor .any ops (st.getD m 0) (st.getD (m - 1) 0)) && (js.getD (m + 1) []).all fun d => (pt.getD (st.getD m 0) []).contains d || (js.getD m []).contains d
def waits2 (ops : Array Oper) (s i : Nat) : Bool := Region.waitsFor .any ops s i || (List.range ops.size).any fun j => Region.waitsFor .any ops s j && Region.waitsFor .any ops j i
def limOk (ops : Array Oper) (st lm : List Nat) : Bool :=
 (List.range ops.size).all fun i => Nat.beq (lm.getD i st.length) st.length || waits2 ops (st.getD (lm.getD i st.length) ops.size) i
def allWritten (ops : Array Oper) (ds : List Nat) : Bool := ds.all fun d => ops.any fun o => o.dst == some d
def allocsOk (ops : Array Oper) (al st : List Nat) : Bool := al.all fun d => st.all fun s => (List.range ops.size).any fun i => (match ops[i]? with | some o => o.dst == some d | none => false) && waits2 ops s i
def chk (al : List Nat) (ops : Array Oper) (pt : List (List Nat)) (ds st : List Nat) (js : List (List Nat)) (lm : List Nat) : Bool :=
 allocsOk ops al st && al.all ds.contains && edgesOk ops && needsOk ops pt ds && onceOk ops && storesOk ops pt st js && limOk ops st lm && allWritten ops ds && (js.getD 0 []).isEmpty
section
variable {P : Program} {ops : Array Oper} {Q : Exit → Act → World → Prop} {FL : List (Nat × Fact)} {J : Nat → List Value → World → Prop} {t0 : Array Value} {df : List Deferred} {ds : List Nat}
 {st lm al : List Nat} {js : List (List Nat)} {pt : List (List Nat)}
def aOk (al : List Nat) (dst : Option Nat) (v : Value) (w w' : World) : Prop := match dst with
 | some d => bif al.contains d then v = .pointer (some ⟨w.heap.size, 0, none⟩) ∧ w.heap.size < w'.heap.size else True
 | none => True
def Apart (al : List Nat) (u : Nat → Value) : Prop := ∀ d ∈ al, ∀ d' ∈ al, d ≠ d' → u d ≠ u d'
def StepOk (al : List Nat) (P : Program) (ops : Array Oper) (Q : Exit → Act → World → Prop) (FL : List (Nat × Fact)) (J : Nat → List Value → World → Prop) (js : List (List Nat)) (fr : (Nat → Value) → Array Value) (df : List Deferred) (o : Oper) (need : List Nat) (lim : Nat) : Prop :=
 ∀ (k : Nat) (u : Nat → Value) (w : World), k ≤ lim → J k ((js.getD k []).map u) w → Facts FL u w need → ∀ K : Act → World → Prop, Shut (∀ v w', Below w.heap.size w w' → factOf FL o.dst v w' → aOk al o.dst v w w' → K ((⟨fr u, df⟩ : Act).put o.dst v) w') →
  if Region.wanted o (yielded ops (fr u)) = true then Oper.wp P o ⟨fr u, df⟩ w K Q else K ((⟨fr u, df⟩ : Act).put o.dst undef) w
def StoreOk (al : List Nat) (P : Program) (ops : Array Oper) (Q : Exit → Act → World → Prop) (FL : List (Nat × Fact)) (J : Nat → List Value → World → Prop) (js : List (List Nat)) (fr : (Nat → Value) → Array Value) (df : List Deferred) (o : Oper) (need : List Nat) (k : Nat) : Prop :=
 ∀ (u : Nat → Value) (w : World), J k ((js.getD k []).map u) w → Apart al u → Facts FL u w need → ∀ K : Act → World → Prop, Shut (∀ v w', J (k + 1) ((js.getD (k + 1) []).map u) w' → Keep w w' → K ((⟨fr u, df⟩ : Act).put o.dst v) w') →
  if Region.wanted o (yielded ops (fr u)) = true then Oper.wp P o ⟨fr u, df⟩ w K Q else K ((⟨fr u, df⟩ : Act).put o.dst undef) w
def StepsOk (al : List Nat) (P : Program) (ops : Array Oper) (Q : Exit → Act → World → Prop) (FL : List (Nat × Fact)) (J : Nat → List Value → World → Prop) (js : List (List Nat)) (fr : (Nat → Value) → Array Value) (df : List Deferred) (pt : List (List Nat)) (st lm : List Nat) : List Oper → Nat → Prop
 | [], _ => True
 | o :: rest, i => (match st.idxOf? i with
   | some k => StoreOk al P ops Q FL J js fr df o (pt.getD i []) k
   | none => StepOk al P ops Q FL J js fr df o (pt.getD i []) (lm.getD i st.length)) ∧ StepsOk al P ops Q FL J js fr df pt st lm rest (i + 1)
theorem StepsOk.nil {fr : (Nat → Value) → Array Value} {i : Nat} : StepsOk al P ops Q FL J js fr df pt st lm [] i := trivial
theorem sc {fr : (Nat → Value) → Array Value} {o : Oper} {rest : List Oper} {i : Nat} {need : List Nat} {lim : Nat} (h0 : st.idxOf? i = none) (h1 : pt.getD i [] = need) (h2 : lm.getD i st.length = lim)
  (h : StepOk al P ops Q FL J js fr df o need lim) (hs : StepsOk al P ops Q FL J js fr df pt st lm rest (i + 1)) : StepsOk al P ops Q FL J js fr df pt st lm (o :: rest) i := ⟨by rw [h0, h1, h2]; exact h, hs⟩
theorem steps_at {fr : (Nat → Value) → Array Value} : ∀ (l : List Oper) (i0 : Nat), StepsOk al P ops Q FL J js fr df pt st lm l i0 → ∀ i o, l[i]? = some o → (match st.idxOf? (i0 + i) with
      | some k => StoreOk al P ops Q FL J js fr df o (pt.getD (i0 + i) []) k
      | none => StepOk al P ops Q FL J js fr df o (pt.getD (i0 + i) []) (lm.getD (i0 + i) st.length)) := by
  intro l
  induction l with
  | nil => intro i0 _ i o h; simp at h
  | cons x l ih =>
    intro i0 hs i o h
    cases i with
    | zero => simp at h; subst h; exact hs.1
    | succ i =>
      have := ih (i0 + 1) hs.2 i o (by simpa using h)
      rwa [show i0 + 1 + i = i0 + (i + 1) by omega] at this
def Written (ops : Array Oper) (listed : Array Bool) (d : Nat) : Prop := ∃ j o', listed.getD j false = true ∧ ops[j]? = some o' ∧ o'.dst = some d
structure Inv (al : List Nat) (ops : Array Oper) (FL : List (Nat × Fact)) (J : Nat → List Value → World → Prop) (js : List (List Nat)) (t0 : Array Value) (df : List Deferred) (ds : List Nat) (pt : List (List Nat)) (st : List Nat) (listed : Array Bool) (a : Act) (w : World) : Prop where
 fr : ∃ k u, a = ⟨fillL u ds t0, df⟩ ∧ (∀ d, Written ops listed d → (look FL d).p (u d) w) ∧ J k ((js.getD k []).map u) w ∧ k ≤ st.length ∧ (∀ m, m < k → listed.getD (st.getD m 0) false = true) ∧
  (∀ m, k ≤ m → m < st.length → listed.getD (st.getD m 0) false = false) ∧ (∀ d ∈ js.getD k [], Written ops listed d) ∧ (∀ d ∈ al, Written ops listed d → ∃ g, u d = .pointer (some ⟨g, 0, none⟩) ∧ g < w.heap.size) ∧
  (∀ d ∈ al, ∀ d' ∈ al, d ≠ d' → Written ops listed d → Written ops listed d' → u d ≠ u d')
 cl : ∀ i, listed.getD i false = true → ∀ d ∈ pt.getD i [], Written ops listed d
 cs : ∀ j oj, ops[j]? = some oj → listed.getD j false = true → ∀ e ∈ oj.after, Region.binds .any e = true → listed.getD e.on false = true
 sz : listed.size = ops.size
theorem Written.more {listed : Array Bool} {d i : Nat} (h : Written ops listed d) : Written ops (listed.setIfInBounds i true) d := by
 obtain ⟨j, o', h1, h2, h3⟩ := h
 exact ⟨j, o', getD_set_true h1, h2, h3⟩
theorem getD_flag {listed : Array Bool} {i : Nat} (h : i < listed.size) : listed.getD i true = listed.getD i false := by simp [h]
structure Chk (al : List Nat) (ops : Array Oper) (pt : List (List Nat)) (ds st : List Nat) (js : List (List Nat)) (lm : List Nat) : Prop where
 edge : ∀ (i : Nat) (o : Oper), ops[i]? = some o → ∀ e ∈ o.after, Region.binds .any e = true → e.on < i
 dst : ∀ (i : Nat) (o : Oper), ops[i]? = some o → ∀ d, o.dst = some d → d ∈ ds
 need : ∀ (i : Nat) (o : Oper), ops[i]? = some o → ∀ d ∈ pt.getD i [], ∃ e ∈ o.after, Region.binds .any e = true ∧ ((∃ o' : Oper, ops[e.on]? = some o' ∧ o'.dst = some d) ∨ d ∈ pt.getD e.on [])
 once : ∀ (i j : Nat) (o o' : Oper) (d : Nat), ops[i]? = some o → ops[j]? = some o' → o.dst = some d → o'.dst = some d → i = j
 slt : ∀ m, m < st.length → st.getD m 0 < ops.size
 sdst : ∀ m, m < st.length → ∀ o : Oper, ops[st.getD m 0]? = some o → o.dst = none
 schain : ∀ m, 0 < m → m < st.length → Region.waitsFor .any ops (st.getD m 0) (st.getD (m - 1) 0) = true
 sjs : ∀ m, m < st.length → ∀ d ∈ js.getD (m + 1) [], d ∈ pt.getD (st.getD m 0) [] ∨ d ∈ js.getD m []
 lim : ∀ i, i < ops.size → lm.getD i st.length = st.length ∨ waits2 ops (st.getD (lm.getD i st.length) ops.size) i = true
 wr : ∀ d ∈ ds, ∃ (i : Nat) (o : Oper), ops[i]? = some o ∧ o.dst = some d
 js0 : js.getD 0 [] = []
 alw : ∀ d ∈ al, ∀ m, m < st.length → ∃ (i : Nat) (o : Oper), ops[i]? = some o ∧ o.dst = some d ∧ waits2 ops (st.getD m 0) i = true
 ald : ∀ d ∈ al, d ∈ ds
theorem chk_spec (h : chk al ops pt ds st js lm = true) : Chk al ops pt ds st js lm := by
 unfold chk at h
 simp only [Bool.and_eq_true] at h
 obtain ⟨⟨⟨⟨⟨⟨⟨⟨h8, h9⟩, h1⟩, h2⟩, h3⟩, h4⟩, h5⟩, h6⟩, h7⟩ := h
 have lt : ∀ (i : Nat) (o : Oper), ops[i]? = some o → i ∈ List.range ops.size := fun i o ho => List.mem_range.2 (Array.getElem?_eq_some_iff.1 ho).1
 constructor
 ·intro i o ho e he hb
  have h := List.all_eq_true.1 h1 i (lt i o ho)
  rw [ho] at h
  dsimp only at h
  rw [Array.all_eq_true_iff_forall_mem] at h
  have h := h e he
  rw [hb] at h
  simpa using h
 ·intro i o ho d hd
  have h := List.all_eq_true.1 h2 i (lt i o ho)
  rw [ho] at h
  dsimp only at h
  rw [hd] at h
  simp only [Bool.and_eq_true] at h
  simpa using h.1
 ·intro i o ho d hd
  have h := List.all_eq_true.1 h2 i (lt i o ho)
  rw [ho] at h
  simp only [Bool.and_eq_true] at h
  have h := List.all_eq_true.1 h.2 d hd
  rw [Array.any_eq_true] at h
  obtain ⟨k, hk, h⟩ := h
  rw [Bool.and_eq_true, Bool.or_eq_true] at h
  refine ⟨o.after[k], Array.getElem_mem _, h.1, ?_⟩
  rcases h.2 with h4 | h4
  ·left
   cases h5 : ops[(o.after[k]).on]? with
   | none => rw [h5] at h4; cases h4
   | some o' => rw [h5] at h4; exact ⟨o', rfl, by simpa using h4⟩
  ·right; simpa using h4
 ·intro i j o o' d ho ho' hd hd'
  have h := List.all_eq_true.1 (List.all_eq_true.1 h3 i (lt i o ho)) j (lt j o' ho')
  rw [ho, ho'] at h
  dsimp only at h
  rw [hd, hd'] at h
  simpa using h
 ·intro m hm
  have h := List.all_eq_true.1 h4 m (List.mem_range.2 hm)
  simp only [Bool.and_eq_true, decide_eq_true_eq] at h
  exact h.1.1.1
 ·intro m hm o ho
  have h := List.all_eq_true.1 h4 m (List.mem_range.2 hm)
  simp only [Bool.and_eq_true, decide_eq_true_eq] at h
  have h := h.1.1.2
  rw [ho] at h
  simpa using h
 ·intro m h0 hm
  have h := List.all_eq_true.1 h4 m (List.mem_range.2 hm)
  simp only [Bool.and_eq_true, decide_eq_true_eq, Bool.or_eq_true, Nat.beq_eq] at h
  rcases h.1.2 with h | h
  ·omega
  ·exact h
 ·intro m hm d hd
  have h := List.all_eq_true.1 h4 m (List.mem_range.2 hm)
  simp only [Bool.and_eq_true] at h
  have h := List.all_eq_true.1 h.2 d hd
  simpa using h
 ·intro i hi
  have h := List.all_eq_true.1 h5 i (List.mem_range.2 hi)
  simp only [Bool.or_eq_true, Nat.beq_eq] at h
  exact h
 ·intro d hd
  have h := List.all_eq_true.1 h6 d hd
  rw [Array.any_eq_true] at h
  obtain ⟨k, hk, h⟩ := h
  exact ⟨k, ops[k], by simp [hk], by simpa using h⟩
 ·simpa using h7
 ·intro d hd m hm
  have h := List.all_eq_true.1 (List.all_eq_true.1 h8 d hd) (st.getD m 0) (by simp [hm])
  obtain ⟨i, hi, h⟩ := List.any_eq_true.1 h
  rw [Bool.and_eq_true] at h
  cases ho : ops[i]? with
  | none => rw [ho] at h; cases h.1
  | some o => rw [ho] at h; exact ⟨i, o, ho, by simpa using h.1, h.2⟩
 ·intro d hd
  have h := List.all_eq_true.1 h9 d hd
  simpa using h
theorem inv_step (hc : Chk al ops pt ds st js lm) (hst : ∀ k l w w', Below w.heap.size w w' → J k l w → J k l w') (hs : StepsOk al P ops Q FL J js (fun u => fillL u ds t0) df pt st lm ops.toList 0) {listed : Array Bool} {a : Act} {w : World}
    (hI : Inv al ops FL J js t0 df ds pt st listed a w) {i : Nat} (hi : i ∈ Region.ready .any ops listed) :
    wpOp P ops Q i (Inv al ops FL J js t0 df ds pt st (listed.setIfInBounds i true)) a w := by
  obtain ⟨h0, o, ho, hall⟩ := mem_ready.1 hi
  have hlt : i < ops.size := (Array.getElem?_eq_some_iff.1 ho).1
  have hil : i < listed.size := by rw [hI.sz]; exact hlt
  have hun : listed.getD i false = false := by rw [← getD_flag hil]; exact h0
  obtain ⟨k, u, rfl, hfac, hJ, hk, hk1, hk2, hk3, hk4, hk5⟩ := hI.fr
  have hneed : ∀ d ∈ pt.getD i [], Written ops listed d := by
    intro d hd
    obtain ⟨e, he, hb, h1⟩ := hc.need i o ho d hd
    have h2 := hall e he hb
    rcases h1 with ⟨o', h3, h4⟩ | h3
    · exact ⟨e.on, o', h2, h3, h4⟩
    · exact hI.cl e.on h2 d h3
  have hstep := steps_at _ _ hs i o (by simpa using ho)
  rw [Nat.zero_add] at hstep
  have hcs : ∀ j oj, ops[j]? = some oj → (listed.setIfInBounds i true).getD j false = true → ∀ e ∈ oj.after, Region.binds .any e = true → (listed.setIfInBounds i true).getD e.on false = true := by
    intro j oj hj hl e he hb
    by_cases hij : i = j
    · subst hij
      have : oj = o := Option.some.inj (hj.symm.trans ho)
      subst this
      exact getD_set_true (hall e he hb)
    · rw [getD_set_ne false hij] at hl
      exact getD_set_true (hI.cs j oj hj hl e he hb)
  have hcl : ∀ j, (listed.setIfInBounds i true).getD j false = true → ∀ d ∈ pt.getD j [], Written ops (listed.setIfInBounds i true) d := by
    intro j hj d hd
    by_cases hij : i = j
    · subst hij; exact (hneed d hd).more
    · rw [getD_set_ne false hij] at hj
      exact (hI.cl j hj d hd).more
  have hwait : ∀ m, m < k → ∀ j, Region.waitsFor .any ops (st.getD m 0) j = true → listed.getD j false = true := by
    intro m hm j hw
    obtain ⟨oj, hoj, e, he, hb, hon⟩ := Region.waitsFor_spec hw
    rw [← hon]
    exact hI.cs _ oj hoj (hk1 m hm) e he hb
  have hwait2 : ∀ m, m < k → ∀ j, waits2 ops (st.getD m 0) j = true → listed.getD j false = true := by
    intro m hm j hw
    unfold waits2 at hw
    rw [Bool.or_eq_true] at hw
    rcases hw with hw | hw
    · exact hwait m hm j hw
    · obtain ⟨x, -, hx⟩ := List.any_eq_true.1 hw
      rw [Bool.and_eq_true] at hx
      obtain ⟨oj, hoj, e, he, hb, hon⟩ := Region.waitsFor_spec hx.2
      rw [← hon]
      exact hI.cs _ oj hoj (hwait m hm x hx.1) e he hb
  cases hsi : st.idxOf? i with
  | none =>
    rw [hsi] at hstep
    have hns : ∀ m, m < st.length → st.getD m 0 ≠ i := by
      intro m hm e
      have h1 : i ∈ st := by rw [← e]; simp [hm]
      have h2 := List.idxOf?_eq_none_iff.1 hsi
      exact h2 h1
    have hlim : k ≤ lm.getD i st.length := by
      rcases hc.lim i hlt with h1 | h1
      · omega
      · rcases Nat.lt_or_ge (lm.getD i st.length) k with h2 | h2
        · exfalso
          have h3 := hwait2 _ h2 i (by
            have e : st.getD (lm.getD i st.length) ops.size = st.getD (lm.getD i st.length) 0 := by
              have : lm.getD i st.length < st.length := by omega
              generalize lm.getD i st.length = z at *
              simp [this]
            rw [← e]; exact h1)
          rw [hun] at h3; cases h3
        · exact h2
    refine wpOp_step ho (fun K' hK => hstep k u w hlim hJ (facts_mk fun d hd => hfac d (hneed d hd)) K' ?_)
    intro v w' hb hf hao
    have hwi : ∀ d, Written ops (listed.setIfInBounds i true) d → o.dst = some d ∨ Written ops listed d := by
      rintro d ⟨j, o', h1, h2, h3⟩
      by_cases hij : i = j
      · subst hij
        rw [ho] at h2
        injection h2 with h2
        subst h2
        exact .inl h3
      · rw [getD_set_ne false hij] at h1
        exact .inr ⟨j, o', h1, h2, h3⟩
    have hnw : ∀ d, o.dst = some d → ¬ Written ops listed d := by
      rintro d hd ⟨j, o', h1, h2, h3⟩
      have := hc.once i j o o' d ho h2 hd h3
      subst this
      rw [hun] at h1; cases h1
    have hne : ∀ d, o.dst ≠ some d → upd u o.dst v d = u d := by
      intro d hd
      cases h : o.dst with
      | none => rfl
      | some d' => rw [h] at hd; simp only [upd]; rw [if_neg (fun h => hd (by rw [h]))]
    have hal : ∀ d ∈ al, o.dst = some d → v = .pointer (some ⟨w.heap.size, 0, none⟩) ∧ w.heap.size < w'.heap.size := by
      intro d hd h
      unfold aOk at hao
      rw [h] at hao
      dsimp only at hao
      rw [show al.contains d = true by simpa using hd] at hao
      exact hao
    refine hK _ _ ⟨⟨k, upd u o.dst v, put_fill u o v (hc.dst i o ho), ?_, ?_, hk, fun m hm => getD_set_true (hk1 m hm), fun m hm hm' => ?_, fun d hd => (hk3 d hd).more, fun d hd hw => ?_, fun d hd d' hd' hdd hw hw' => ?_⟩, hcl, hcs, by simpa using hI.sz⟩
    · rintro d ⟨j, o', h1, h2, h3⟩
      by_cases hd : o.dst = some d
      · rw [hd] at hf ⊢
        have e : upd u (some d) v d = v := by simp [upd]
        rw [e]; exact hf
      · have hw : Written ops listed d := by
          by_cases hij : i = j
          · subst hij
            rw [ho] at h2
            injection h2 with h2
            subst h2
            exact absurd h3 hd
          · rw [getD_set_ne false hij] at h1
            exact ⟨j, o', h1, h2, h3⟩
        have e : upd u o.dst v d = u d := by
          cases h : o.dst with
          | none => rfl
          | some d' => rw [h] at hd; simp only [upd]; rw [if_neg (fun h => hd (by rw [h]))]
        rw [e]
        exact (look FL d).st _ _ _ (Keep.ofBelow hb) (hfac d hw)
    · have e : (js.getD k []).map (upd u o.dst v) = (js.getD k []).map u := by
        apply List.map_congr_left
        intro d hd
        cases h : o.dst with
        | none => rfl
        | some d' =>
          simp only [upd]
          rw [if_neg]
          rintro rfl
          obtain ⟨j, o', h1, h2, h3⟩ := hk3 d hd
          have := hc.once i j o o' d ho h2 h h3
          subst this
          rw [hun] at h1; cases h1
      rw [e]
      exact hst _ _ _ _ hb hJ
    · rw [getD_set_ne false (Ne.symm (hns m hm'))]; exact hk2 m hm hm'
    · by_cases h : o.dst = some d
      · obtain ⟨h1, h2⟩ := hal d hd h
        exact ⟨w.heap.size, by rw [h]; simp [upd, h1], h2⟩
      · rcases hwi d hw with h1 | h1
        · exact absurd h1 h
        · obtain ⟨g, h2, h3⟩ := hk4 d hd h1
          exact ⟨g, by rw [hne d h]; exact h2, Nat.lt_of_lt_of_le h3 hb.size⟩
    · by_cases h : o.dst = some d
      · have h' : o.dst ≠ some d' := fun h2 => hdd (by rw [h] at h2; injection h2)
        rcases hwi d' hw' with h1 | h1
        · exact absurd h1 h'
        · obtain ⟨g, h2, h3⟩ := hk4 d' hd' h1
          rw [hne d' h', h2, h]
          simp only [upd, if_pos]
          rw [(hal d hd h).1]
          intro he
          simp at he <;> omega
      · rcases hwi d hw with h1 | h1
        · exact absurd h1 h
        · by_cases h' : o.dst = some d'
          · obtain ⟨g, h2, h3⟩ := hk4 d hd h1
            rw [hne d h, h2, h']
            simp only [upd, if_pos]
            rw [(hal d' hd' h').1]
            intro he
            simp at he <;> omega
          · rcases hwi d' hw' with h2 | h2
            · exact absurd h2 h'
            · rw [hne d h, hne d' h']; exact hk5 d hd d' hd' hdd h1 h2
  | some m =>
    rw [hsi] at hstep
    obtain ⟨hm, hmi, -⟩ := List.idxOf?_eq_some_iff.1 hsi
    have hmi' : st.getD m 0 = i := by simp [hm]; exact hmi
    have hmk : m = k := by
      rcases Nat.lt_trichotomy m k with h1 | h1 | h1
      · have := hk1 m h1; rw [hmi', hun] at this; cases this
      · exact h1
      · exfalso
        have h2 := hc.schain m (by omega) hm
        rw [hmi'] at h2
        obtain ⟨oj, hoj, e, he, hb, hon⟩ := Region.waitsFor_spec h2
        have : oj = o := Option.some.inj (hoj.symm.trans ho)
        subst this
        have h3 := hall e he hb
        rw [hon, hk2 (m - 1) (by omega) (by omega)] at h3
        cases h3
    subst hmk
    have hdn : o.dst = none := hc.sdst m hm o (by rw [hmi']; exact ho)
    have hwal : ∀ d ∈ al, Written ops listed d := by
      intro d hd
      obtain ⟨j, o', h1, h2, h3⟩ := hc.alw d hd m hm
      rw [hmi'] at h3
      refine ⟨j, o', ?_, h1, h2⟩
      unfold waits2 at h3
      rw [Bool.or_eq_true] at h3
      rcases h3 with h3 | h3
      · obtain ⟨oj, hoj, e, he, hb, hon⟩ := Region.waitsFor_spec h3
        have : oj = o := Option.some.inj (hoj.symm.trans ho)
        subst this
        rw [← hon]; exact hall e he hb
      · obtain ⟨x, -, hx⟩ := List.any_eq_true.1 h3
        rw [Bool.and_eq_true] at hx
        obtain ⟨oj, hoj, e, he, hb, hon⟩ := Region.waitsFor_spec hx.1
        have : oj = o := Option.some.inj (hoj.symm.trans ho)
        subst this
        have h4 := hall e he hb
        rw [hon] at h4
        obtain ⟨oj2, hoj2, e2, he2, hb2, hon2⟩ := Region.waitsFor_spec hx.2
        rw [← hon2]
        exact hI.cs _ oj2 hoj2 h4 e2 he2 hb2
    refine wpOp_step ho (fun K' hK => hstep u w hJ (fun d hd d' hd' hdd => hk5 d hd d' hd' hdd (hwal d hd) (hwal d' hd')) (facts_mk fun d hd => hfac d (hneed d hd)) K' ?_)
    intro v w' hJ' hb
    refine hK _ _ ⟨⟨m + 1, u, by rw [hdn]; rfl, ?_, hJ', hm, fun j hj => ?_, fun j hj hj' => ?_, fun d hd => ?_, fun d hd hw => ?_, fun d hd d' hd' hdd hw hw' => hk5 d hd d' hd' hdd (hwal d hd) (hwal d' hd')⟩, hcl, hcs, by simpa using hI.sz⟩
    · rintro d ⟨j, o', h1, h2, h3⟩
      have hij : i ≠ j := by
        rintro rfl
        rw [ho] at h2
        injection h2 with h2
        subst h2
        rw [hdn] at h3; cases h3
      rw [getD_set_ne false hij] at h1
      exact (look FL d).st _ _ _ hb (hfac d ⟨j, o', h1, h2, h3⟩)
    · by_cases h1 : j = m
      · subst h1; rw [hmi']; simp [hil]
      · exact getD_set_true (hk1 j (by omega))
    · have h1 := hk2 j (by omega) hj'
      by_cases h2 : st.getD j 0 = i
      · exfalso
        have h3 : ∀ n, m ≤ n → n < st.length → i ≤ st.getD n 0 ∧ (m < n → i < st.getD n 0) := by
          intro n
          induction n with
          | zero => intro h4 h5; exact ⟨by have : m = 0 := by omega
                                           subst this; rw [hmi']; exact Nat.le_refl _, fun h => by omega⟩
          | succ n ih =>
            intro h4 h5
            by_cases h6 : m = n + 1
            · subst h6; exact ⟨by rw [hmi']; exact Nat.le_refl _, fun h => by omega⟩
            · have h7 := ih (by omega) (by omega)
              have h8 := hc.schain (n + 1) (by omega) h5
              obtain ⟨oj, hoj, e, he, hb', hon⟩ := Region.waitsFor_spec h8
              have h9 := hc.edge _ oj hoj e he hb'
              rw [hon, Nat.add_sub_cancel] at h9
              exact ⟨by omega, fun _ => by omega⟩
        have := (h3 j (by omega) hj').2 (by omega)
        omega
      · rw [getD_set_ne false (Ne.symm h2)]; exact h1
    · rcases hc.sjs m hm d hd with h1 | h1
      · rw [hmi'] at h1; exact (hneed d h1).more
      · exact (hk3 d h1).more
    · obtain ⟨g, h1, h2⟩ := hk4 d hd (hwal d hd)
      exact ⟨g, h1, Nat.lt_of_lt_of_le h2 hb.size⟩
theorem ready_nil_all (hc : Chk al ops pt ds st js lm) {listed : Array Bool} (hsz : listed.size = ops.size) (hr : Region.ready .any ops listed = []) : ∀ n i, i < n → i < ops.size → listed.getD i false = true := by
 intro n
 induction n with
 | zero => intro i h; omega
 | succ n ih =>
  intro i hin hi
  have hil : i < listed.size := by omega
  cases hv : listed.getD i false with
  | true => rfl
  | false =>
   exfalso
   have ho : ops[i]? = some ops[i] := by simp [hi]
   have : i ∈ Region.ready .any ops listed := by
    rw [mem_ready]
    refine ⟨by simp [hil] at hv ⊢; exact hv, _, ho, fun e he hb => ?_⟩
    have h1 := hc.edge i _ ho e he hb
    exact ih e.on (by omega) (by omega)
   rw [hr] at this
   cases this
theorem wpAny_inv (hc : Chk al ops pt ds st js lm) (hst : ∀ k l w w', Below w.heap.size w w' → J k l w → J k l w') (hs : StepsOk al P ops Q FL J js (fun u => fillL u ds t0) df pt st lm ops.toList 0)
  (hend : ∀ u w, J st.length ((js.getD st.length []).map u) w → Facts FL u w ds → Q .normal ⟨fillL u ds t0, df⟩ w) :
  ∀ (fuel : Nat) (listed : Array Bool) (a : Act) (w : World), ((List.range ops.size).filter fun j => !listed.getD j true).length ≤ fuel → Inv al ops FL J js t0 df ds pt st listed a w → wpAny P .any ops Q fuel listed a w := by
 have hfin : ∀ (listed : Array Bool) (a : Act) (w : World), Inv al ops FL J js t0 df ds pt st listed a w → Region.ready .any ops listed = [] → Q .normal a w := by
  intro listed a w hI hr
  obtain ⟨k, u, rfl, hfac, hJ, hk, hk1, hk2, hk3, hk4, hk5⟩ := hI.fr
  have hall := ready_nil_all hc hI.sz hr
  have hkl : k = st.length := by
   rcases Nat.lt_or_ge k st.length with h | h
   ·have h1 := hk2 k (Nat.le_refl _) h
    rw [hall (st.getD k 0 + 1) _ (by omega) (hc.slt k h)] at h1
    cases h1
   ·omega
  subst hkl
  refine hend u w hJ (facts_mk fun d hd => hfac d ?_)
  obtain ⟨i, o, h1, h2⟩ := hc.wr d hd
  exact ⟨i, o, hall (i + 1) i (by omega) (Array.getElem?_eq_some_iff.1 h1).1, h1, h2⟩
 intro fuel
 induction fuel with
 | zero =>
  intro listed a w hcnt hI
  have hr : Region.ready .any ops listed = [] := by
   rw [List.eq_nil_iff_forall_not_mem]
   intro j hj
   obtain ⟨h0, o, ho, -⟩ := mem_ready.1 hj
   have hlt : j < ops.size := (Array.getElem?_eq_some_iff.1 ho).1
   have hm : j ∈ (List.range ops.size).filter fun j => !listed.getD j true := by
    rw [List.mem_filter]
    exact ⟨List.mem_range.2 hlt, by rw [h0]; rfl⟩
   have := List.length_pos_of_mem hm
   omega
  exact ⟨hr, hfin _ _ _ hI hr⟩
 | succ fuel ih =>
  intro listed a w hcnt hI
  refine ⟨fun hr => hfin _ _ _ hI hr, fun i hi => ?_⟩
  obtain ⟨h0, o, ho, -⟩ := mem_ready.1 hi
  have hlt : i < ops.size := (Array.getElem?_eq_some_iff.1 ho).1
  refine wpOp_mono (fun a' w' hI' => ih _ a' w' ?_ hI') (inv_step hc hst hs hI hi)
  have := filter_less (p := fun j => !listed.getD j true) (q := fun j => !(listed.setIfInBounds i true).getD j true) (i := i) (by simp only [h0]; rfl) (by
   have hil : i < listed.size := by rw [hI.sz]; exact hlt
   simp [hil]) (fun j hj => by
   by_cases hij : i = j
   ·subst hij
    exfalso
    have hil : i < listed.size := by rw [hI.sz]; exact hlt
    simp [hil] at hj
   ·rw [getD_set_ne true hij] at hj; exact hj) (List.range ops.size) (List.mem_range.2 hlt)
  omega
theorem region_facts {id : Nat} {w : World} {opl : List Oper} (FL : List (Nat × Fact)) (J : Nat → List Value → World → Prop) (pt : List (List Nat)) (st : List Nat) (js : List (List Nat)) (lm : List Nat) (al : List Nat) {fr : (Nat → Value) → Array Value} (hfr : ∀ u, fillL u (temps FL) t0 = fr u)
  (hm : P.follows .mixedOrders = true) (hchk : chk al opl.toArray pt (temps FL) st js lm = true) (hst : ∀ k l w w', Below w.heap.size w w' → J k l w → J k l w') (hJ : J 0 [] w.drew)
  (hs : StepsOk al P opl.toArray Q FL J js fr df pt st lm opl 0)
  (hend : ∀ u w, J st.length ((js.getD st.length []).map u) w → Facts FL u w (temps FL) → Q .normal ⟨fr u, df⟩ w) : (Code.region id opl.toArray true).wp P Q ⟨t0, df⟩ w := by
 obtain rfl : (fun u => fillL u (temps FL) t0) = fr := funext hfr
 have hc := chk_spec hchk
 refine wp_region_any hm (wpAny_inv (t0 := t0) hc hst hs hend opl.toArray.size _ _ _ ?_ ⟨⟨0, fun d => t0.getD d undef, by rw [fillL_self], ?_, by rw [hc.js0]; exact hJ, Nat.zero_le _, fun m h => by omega, fun m _ _ => none_listed _ _, fun d hd => (by rw [hc.js0] at hd; cases hd), fun d _ hw => (by obtain ⟨j, o', h1, _, _⟩ := hw; rw [none_listed] at h1; cases h1), fun d _ d' _ _ hw => by obtain ⟨j, o', h1, _, _⟩ := hw; rw [none_listed] at h1; cases h1⟩, ?_, ?_, by simp⟩)
 ·exact Nat.le_trans (List.length_filter_le _ _) (by simp)
 ·rintro d ⟨j, o', h1, -, -⟩
  rw [none_listed] at h1; cases h1
 ·intro i hi
  rw [none_listed] at hi; cases hi
 ·intro j oj _ hl
  rw [none_listed] at hl; cases hl
end
end Go.Proofs.YtompehjecamdiaaGreat.AS
namespace Go.Proofs.YtompehjecamdiaaGreat
open Go.RowKit
theorem SlI.keep {w w' : World} {v : Value} {L : List Int} (h : SlI w v L) (hk : AS.Keep w w') : SlI w' v L := by
 obtain ⟨A, c, e, h⟩ := h
 refine ⟨A, c, e, fun h0 => ?_⟩
 obtain ⟨b, off, e, hlt, hc⟩ := h h0
 exact ⟨b, off, e, Nat.lt_of_lt_of_le hlt hk.size, fun i hi => (hk.cell hlt (hc i hi)).trans (hc i hi)⟩
def HSl (L : List Int) : AS.Fact := ⟨fun v w => SlI w v L, fun _ _ _ hb h => h.keep hb⟩
def HNo (W : World) : Nat → List Value → World → Prop := fun _ _ w => Below W.heap.size W w
theorem HNo.st (W : World) : ∀ k l w w', Below w.heap.size w w' → HNo W k l w → HNo W k l w' := fun _ _ _ _ hb h => below_more h hb
theorem rowB_prop {L : List Acc} {g : Bool} {k : Nat} (h : properB L g (L.getD k acc0) = false) : rowB L g k = false := by unfold rowB; rw [h]; rfl
theorem rowB_zero {L : List Acc} {g : Bool} (h : properB L g (L.getD 0 acc0) = true) : rowB L g 0 = topB L (L.getD 0 acc0) := by unfold rowB; rw [h]; simp
theorem rowB_down {L : List Acc} {g : Bool} {j : Nat} (h : (L.getD (j + 1) acc0).code ≤ (L.getD j acc0).code) : rowB L g (j + 1) = false := by
 unfold rowB
 rw [show decide (j + 1 = 0) = false from decide_eq_false (by omega), show decide ((L.getD (j + 1 - 1) acc0).code < (L.getD (j + 1) acc0).code) = false from decide_eq_false (by rw [Nat.add_sub_cancel]; omega)]
 simp
theorem rowB_up {L : List Acc} {g : Bool} {j : Nat} (h : properB L g (L.getD (j + 1) acc0) = true) (h2 : (L.getD j acc0).code < (L.getD (j + 1) acc0).code) : rowB L g (j + 1) = topB L (L.getD (j + 1) acc0) := by
 unfold rowB
 rw [h, show decide ((L.getD (j + 1 - 1) acc0).code < (L.getD (j + 1) acc0).code) = true from decide_eq_true (by rw [Nat.add_sub_cancel]; omega)]
 simp
def rvFa (b off n k : Nat) (cp : Nat) (g : Bool) (x : Acc) : List (Nat × AS.Fact) := [(15, AS.Fact.is (.slice (some ⟨b, off, none⟩) (n : Nat) cp)), (16, AS.Fact.is (.slice (some ⟨b, off, none⟩) (n : Nat) cp)), (17, AS.Fact.is (.int .i64 (k : Int))), (18, AS.Fact.is (.pointer (some ⟨b, off + k * 4, none⟩))), (19, AS.Fact.is (accV x)), (20, AS.Fact.is (.bool g)), (21, AS.Fact.is (.bool false)), (22, AS.Fact.is (.bool true)), (23, AS.Fact.is (.bool true)), (24, AS.Fact.is (undef)), (25, AS.Fact.is (undef)), (26, AS.Fact.is (undef)), (27, AS.Fact.is (undef)), (28, AS.Fact.is (undef)), (29, AS.Fact.is (undef)), (30, AS.Fact.is (undef)), (31, AS.Fact.is (undef)), (32, AS.Fact.is (undef)), (33, AS.Fact.is (undef)), (34, AS.Fact.is (undef)), (35, AS.Fact.is (undef)), (36, AS.Fact.is (undef)), (37, AS.Fact.is (undef)), (38, AS.Fact.is (undef)), (39, AS.Fact.is (undef)), (40, AS.Fact.is (.bool true)), (41, AS.Fact.is (.bool true)), (42, AS.Fact.is (undef)), (43, AS.Fact.is (undef)), (44, AS.Fact.is (undef)), (45, AS.Fact.is (undef)), (46, AS.Fact.is (undef)), (47, AS.Fact.is (undef)), (48, AS.Fact.is (undef)), (49, AS.Fact.is (undef)), (50, AS.Fact.is (undef)), (51, AS.Fact.is (undef)), (52, AS.Fact.is (undef)), (53, AS.Fact.is (.bool true))]
def rvFb (b off n k : Nat) (cp : Nat) (g : Bool) (x : Acc) (C : List Int) (cl : Nat) (q : Bool) : List (Nat × AS.Fact) := [(15, AS.Fact.is (.slice (some ⟨b, off, none⟩) (n : Nat) cp)), (16, AS.Fact.is (.slice (some ⟨b, off, none⟩) (n : Nat) cp)), (17, AS.Fact.is (.int .i64 (k : Int))), (18, AS.Fact.is (.pointer (some ⟨b, off + k * 4, none⟩))), (19, AS.Fact.is (accV x)), (20, AS.Fact.is (.bool g)), (21, AS.Fact.is (.bool true)), (22, AS.Fact.is (.bool false)), (23, AS.Fact.is (.bool false)), (24, AS.Fact.is (.int .i64 (k : Int))), (25, AS.Fact.is (.bool false)), (26, AS.Fact.is (.bool false)), (27, AS.Fact.is (undef)), (28, AS.Fact.is (undef)), (29, AS.Fact.is (undef)), (30, AS.Fact.is (undef)), (31, AS.Fact.is (undef)), (32, AS.Fact.is (undef)), (33, AS.Fact.is (undef)), (34, AS.Fact.is (undef)), (35, AS.Fact.is (undef)), (36, AS.Fact.is (undef)), (37, AS.Fact.is (undef)), (38, AS.Fact.is (undef)), (39, AS.Fact.is (.bool false)), (40, AS.Fact.is (.bool false)), (41, AS.Fact.is (.bool false)), (42, AS.Fact.is (.slice (some ⟨b, off, none⟩) (n : Nat) cp)), (43, AS.Fact.is (.slice (some ⟨b, off, none⟩) (n : Nat) cp)), (44, AS.Fact.is (.int .i64 (k : Int))), (45, AS.Fact.is (.pointer (some ⟨b, off + k * 4, none⟩))), (46, AS.Fact.is (.pointer (some ⟨b, off + k * 4, none⟩))), (47, AS.Fact.is (.int .i64 x.code)), (48, HSl C), (49, AS.Fact.is (.int .i64 (cl : Int))), (50, AS.Fact.is (.slice (some ⟨b, off, none⟩) (n : Nat) cp)), (51, AS.Fact.is (.int .i64 (n : Int))), (52, AS.Fact.is (.bool q)), (53, AS.Fact.is (.bool q))]
def rvFc (b off n k j : Nat) (cp : Nat) (g : Bool) (x y : Acc) : List (Nat × AS.Fact) := [(15, AS.Fact.is (.slice (some ⟨b, off, none⟩) (n : Nat) cp)), (16, AS.Fact.is (.slice (some ⟨b, off, none⟩) (n : Nat) cp)), (17, AS.Fact.is (.int .i64 (k : Int))), (18, AS.Fact.is (.pointer (some ⟨b, off + k * 4, none⟩))), (19, AS.Fact.is (accV x)), (20, AS.Fact.is (.bool g)), (21, AS.Fact.is (.bool true)), (22, AS.Fact.is (.bool false)), (23, AS.Fact.is (.bool false)), (24, AS.Fact.is (.int .i64 (k : Int))), (25, AS.Fact.is (.bool true)), (26, AS.Fact.is (.bool true)), (27, AS.Fact.is (.slice (some ⟨b, off, none⟩) (n : Nat) cp)), (28, AS.Fact.is (.int .i64 (k : Int))), (29, AS.Fact.is (.pointer (some ⟨b, off + k * 4, none⟩))), (30, AS.Fact.is (.pointer (some ⟨b, off + k * 4, none⟩))), (31, AS.Fact.is (.int .i64 x.code)), (32, AS.Fact.is (.slice (some ⟨b, off, none⟩) (n : Nat) cp)), (33, AS.Fact.is (.int .i64 (k : Int))), (34, AS.Fact.is (.int .i64 (j : Int))), (35, AS.Fact.is (.pointer (some ⟨b, off + j * 4, none⟩))), (36, AS.Fact.is (.pointer (some ⟨b, off + j * 4, none⟩))), (37, AS.Fact.is (.int .i64 y.code)), (38, AS.Fact.is (.bool true)), (39, AS.Fact.is (.bool true)), (40, AS.Fact.is (.bool true)), (41, AS.Fact.is (.bool true)), (42, AS.Fact.is (undef)), (43, AS.Fact.is (undef)), (44, AS.Fact.is (undef)), (45, AS.Fact.is (undef)), (46, AS.Fact.is (undef)), (47, AS.Fact.is (undef)), (48, AS.Fact.is (undef)), (49, AS.Fact.is (undef)), (50, AS.Fact.is (undef)), (51, AS.Fact.is (undef)), (52, AS.Fact.is (undef)), (53, AS.Fact.is (.bool true))]
def rvFd (b off n k j : Nat) (cp : Nat) (g : Bool) (x y : Acc) (C : List Int) (cl : Nat) (q : Bool) : List (Nat × AS.Fact) := [(15, AS.Fact.is (.slice (some ⟨b, off, none⟩) (n : Nat) cp)), (16, AS.Fact.is (.slice (some ⟨b, off, none⟩) (n : Nat) cp)), (17, AS.Fact.is (.int .i64 (k : Int))), (18, AS.Fact.is (.pointer (some ⟨b, off + k * 4, none⟩))), (19, AS.Fact.is (accV x)), (20, AS.Fact.is (.bool g)), (21, AS.Fact.is (.bool true)), (22, AS.Fact.is (.bool false)), (23, AS.Fact.is (.bool false)), (24, AS.Fact.is (.int .i64 (k : Int))), (25, AS.Fact.is (.bool true)), (26, AS.Fact.is (.bool true)), (27, AS.Fact.is (.slice (some ⟨b, off, none⟩) (n : Nat) cp)), (28, AS.Fact.is (.int .i64 (k : Int))), (29, AS.Fact.is (.pointer (some ⟨b, off + k * 4, none⟩))), (30, AS.Fact.is (.pointer (some ⟨b, off + k * 4, none⟩))), (31, AS.Fact.is (.int .i64 x.code)), (32, AS.Fact.is (.slice (some ⟨b, off, none⟩) (n : Nat) cp)), (33, AS.Fact.is (.int .i64 (k : Int))), (34, AS.Fact.is (.int .i64 (j : Int))), (35, AS.Fact.is (.pointer (some ⟨b, off + j * 4, none⟩))), (36, AS.Fact.is (.pointer (some ⟨b, off + j * 4, none⟩))), (37, AS.Fact.is (.int .i64 y.code)), (38, AS.Fact.is (.bool false)), (39, AS.Fact.is (.bool false)), (40, AS.Fact.is (.bool false)), (41, AS.Fact.is (.bool false)), (42, AS.Fact.is (.slice (some ⟨b, off, none⟩) (n : Nat) cp)), (43, AS.Fact.is (.slice (some ⟨b, off, none⟩) (n : Nat) cp)), (44, AS.Fact.is (.int .i64 (k : Int))), (45, AS.Fact.is (.pointer (some ⟨b, off + k * 4, none⟩))), (46, AS.Fact.is (.pointer (some ⟨b, off + k * 4, none⟩))), (47, AS.Fact.is (.int .i64 x.code)), (48, HSl C), (49, AS.Fact.is (.int .i64 (cl : Int))), (50, AS.Fact.is (.slice (some ⟨b, off, none⟩) (n : Nat) cp)), (51, AS.Fact.is (.int .i64 (n : Int))), (52, AS.Fact.is (.bool q)), (53, AS.Fact.is (.bool q))]
set_option maxRecDepth 20000 in
set_option maxHeartbeats 3200000 in
theorem rvalid8_any (A : Option Addr) (cp : Nat) (L : List Acc) (g : Bool) (w : World) (hz : AccAt w A L) (hl : L.length ≤ 1000) :
  Calls Tryz.prog 47 #[.slice A L.length cp, .bool g] w fun e w' => e = .returned (.bool (rvB L g)) ∧ Below w.heap.size w w' := by
 have hB := Below.refl w.heap.size w
 have hPr := fun x w h => rproper_any A cp L x g w h hl
 have hCb := fun c w h => rclimb_any A cp L c w h hl
 obtain ⟨n, hn⟩ : ∃ n, L.length = n := ⟨_, rfl⟩
 have hn0 := hn
 rw [hn] at hl hPr hCb ⊢
 have HN := Lib.hid hn
 have HZ := Lib.hid hz
 have HPr := Lib.hid hPr
 have HCb := Lib.hid hCb
 clear hn hz hPr hCb
 by_cases hbig : 200 < n
 ·have E : Hid (rvB L g = false) := Lib.hid (by unfold rvB; rw [decide_eq_false (by omega)]; rfl)
  have e1 : decide ((200 : Int) < (n : Int)) = true := decide_eq_true (by omega)
  clear hn0
  go_enter Tryz.func47, Tryz.ntmps47
  go_wp2_with fail
  go_ret
  exact ⟨by rw [E.out]; rfl, hB⟩
 have HV : Hid (rvB L g = rowsTo L g n) := Lib.hid (by unfold rvB; rw [decide_eq_true (by omega), hn0]; rfl)
 have e1 : decide ((200 : Int) < (n : Int)) = false := decide_eq_false (by omega)
 clear hn0
 go_enter Tryz.func47, Tryz.ntmps47
 go_wp2_with fail
 go_loopg [5] n (fun kx s5 wr => ∃ k : Nat, s5 = .int .i64 k ∧ k ≤ n ∧ n - k ≤ kx ∧ Hid (rowsTo L g k = true) ∧ Below w.heap.size w wr)
 case atStart => exact ⟨0, rfl, by omega, by omega, Lib.hid rfl, hB⟩
 case round =>
  clear hB
  obtain ⟨k, rfl, hk, hkx, HR, hB⟩ := hrel
  by_cases hlt : k < n
  ·have hltz : (k : Int) < (n : Int) := by omega
   have HZW := Lib.hid (HZ.out.up hB)
   obtain ⟨b, off, rfl, hbw, hcs⟩ := HZW.out (by rw [HN.out]; omega)
   have hbW : b < wr.heap.size := hbw
   obtain ⟨x, hx⟩ : ∃ x, L.getD k acc0 = x := ⟨_, rfl⟩
   have hx4 := hcs k (by rw [HN.out]; exact hlt)
   rw [hx] at hx4
   have HX := Lib.hid hx
   have HX4 := Lib.hid hx4
   have HCS := Lib.hid hcs
   have hpr := HPr.out x
   have hcb := HCb.out x.code
   clear hcs hx hx4 hbw
   go_wp2_with fail
   cases hp : properB L g x
   ·have E : Hid (rvB L g = false) := Lib.hid (rvB_no (k := k) (by rw [HN.out]; exact hlt) (rowB_prop (by rw [HX.out]; exact hp)))
    rw [hp] at hpr
    replace HPr := Lib.hid hpr
    clear hpr hcb HCb hp
    refine AS.region_facts (rvFa b off n k cp g x) (HNo wr) [[], [], [], [16, 17], [18], [], [15, 19, 20], [21], [22], [23], [23], [23], [26], [26], [26], [26], [26], [26], [26], [26], [26], [26], [26], [26], [23], [23, 39], [40], [41], [41], [41], [41], [41], [41], [41], [41], [41], [41], [41], [41, 52]] [] [[]] [0, 0, 0, 0, 0, 0, 0, 0, 0, 0, 0, 0, 0, 0, 0, 0, 0, 0, 0, 0, 0, 0, 0, 0, 0, 0, 0, 0, 0, 0, 0, 0, 0, 0, 0, 0, 0, 0, 0] [] (fun u => by simp only [rvFa, AS.temps, List.map_cons, List.map_nil, fillL, List.setIfInBounds_toArray, List.set_cons_zero, List.set_cons_succ]; rfl) (by kernel_rfl) (by kernel_rfl) (HNo.st wr) (dc_drew (Below.refl _ _)) ?_ ?_
    ·refine AS.sc rfl rfl rfl ?_ ?_
     ·intro k_ u w_ hk_ hJ hF K hK
      clear hF
      go_simp
      exact hK.out _ _ (Below.refl _ _) (rfl) trivial
     refine AS.sc rfl rfl rfl ?_ ?_
     ·intro k_ u w_ hk_ hJ hF K hK
      clear hF
      go_simp
      exact hK.out _ _ (Below.refl _ _) (rfl) trivial
     refine AS.sc rfl rfl rfl ?_ ?_
     ·intro k_ u w_ hk_ hJ hF K hK
      clear hF
      go_simp
      exact hK.out _ _ (Below.refl _ _) (rfl) trivial
     refine AS.sc rfl rfl rfl ?_ ?_
     ·intro k_ u w_ hk_ hJ hF K hK
      have h16 : u 16 = .slice (some ⟨b, off, none⟩) (n : Nat) cp := AS.facts_get hF 16 (by simp)
      have h17 : u 17 = .int .i64 (k : Int) := AS.facts_get hF 17 (by simp)
      clear hF
      simp only [h16, h17] at hK ⊢
      clear h16 h17
      go_simp
      exact hK.out _ _ (Below.refl _ _) (rfl) trivial
     refine AS.sc rfl rfl rfl ?_ ?_
     ·intro k_ u w_ hk_ hJ hF K hK
      have h18 : u 18 = .pointer (some ⟨b, off + k * 4, none⟩) := AS.facts_get hF 18 (by simp)
      clear hF
      simp only [h18] at hK ⊢
      clear h18
      obtain ⟨c0, c1, c2, c3⟩ := HX4.out.up (hJ : Below wr.heap.size wr w_) hbW
      go_simp
      exact hK.out _ _ (Below.refl _ _) (rfl) trivial
     refine AS.sc rfl rfl rfl ?_ ?_
     ·intro k_ u w_ hk_ hJ hF K hK
      clear hF
      go_simp
      exact hK.out _ _ (Below.refl _ _) (rfl) trivial
     refine AS.sc rfl rfl rfl ?_ ?_
     ·intro k_ u w_ hk_ hJ hF K hK
      have h15 : u 15 = .slice (some ⟨b, off, none⟩) (n : Nat) cp := AS.facts_get hF 15 (by simp)
      have h19 : u 19 = accV x := AS.facts_get hF 19 (by simp)
      have h20 : u 20 = .bool g := AS.facts_get hF 20 (by simp)
      clear hF
      simp only [h15, h19, h20] at hK ⊢
      clear h15 h19 h20
      have hz9 := HZW.out.up (hJ : Below wr.heap.size wr w_)
      go_simp
      refine (HPr.out _ hz9).mono ?_
      rintro e w3 ⟨rfl, hb⟩
      exact hK.out _ _ hb (rfl) trivial
     refine AS.sc rfl rfl rfl ?_ ?_
     ·intro k_ u w_ hk_ hJ hF K hK
      have h21 : u 21 = .bool false := AS.facts_get hF 21 (by simp)
      clear hF
      simp only [h21] at hK ⊢
      clear h21
      go_simp
      exact hK.out _ _ (Below.refl _ _) (rfl) trivial
     refine AS.sc rfl rfl rfl ?_ ?_
     ·intro k_ u w_ hk_ hJ hF K hK
      have h22 : u 22 = .bool true := AS.facts_get hF 22 (by simp)
      clear hF
      simp only [h22] at hK ⊢
      clear h22
      go_simp
      exact hK.out _ _ (Below.refl _ _) (rfl) trivial
     refine AS.sc rfl rfl rfl ?_ ?_
     ·intro k_ u w_ hk_ hJ hF K hK
      have h23 : u 23 = .bool true := AS.facts_get hF 23 (by simp)
      clear hF
      simp only [h23] at hK ⊢
      clear h23
      go_simp
      exact hK.out _ _ (Below.refl _ _) (rfl) trivial
     refine AS.sc rfl rfl rfl ?_ ?_
     ·intro k_ u w_ hk_ hJ hF K hK
      have h23 : u 23 = .bool true := AS.facts_get hF 23 (by simp)
      clear hF
      simp only [h23] at hK ⊢
      clear h23
      go_simp
      exact hK.out _ _ (Below.refl _ _) (rfl) trivial
     refine AS.sc rfl rfl rfl ?_ ?_
     ·intro k_ u w_ hk_ hJ hF K hK
      have h23 : u 23 = .bool true := AS.facts_get hF 23 (by simp)
      clear hF
      simp only [h23] at hK ⊢
      clear h23
      go_simp
      exact hK.out _ _ (Below.refl _ _) (rfl) trivial
     refine AS.sc rfl rfl rfl ?_ ?_
     ·intro k_ u w_ hk_ hJ hF K hK
      have h26 : u 26 = undef := AS.facts_get hF 26 (by simp)
      clear hF
      simp only [h26] at hK ⊢
      clear h26
      go_simp
      exact hK.out _ _ (Below.refl _ _) (rfl) trivial
     refine AS.sc rfl rfl rfl ?_ ?_
     ·intro k_ u w_ hk_ hJ hF K hK
      have h26 : u 26 = undef := AS.facts_get hF 26 (by simp)
      clear hF
      simp only [h26] at hK ⊢
      clear h26
      go_simp
      exact hK.out _ _ (Below.refl _ _) (rfl) trivial
     refine AS.sc rfl rfl rfl ?_ ?_
     ·intro k_ u w_ hk_ hJ hF K hK
      have h26 : u 26 = undef := AS.facts_get hF 26 (by simp)
      clear hF
      simp only [h26] at hK ⊢
      clear h26
      go_simp
      exact hK.out _ _ (Below.refl _ _) (rfl) trivial
     refine AS.sc rfl rfl rfl ?_ ?_
     ·intro k_ u w_ hk_ hJ hF K hK
      have h26 : u 26 = undef := AS.facts_get hF 26 (by simp)
      clear hF
      simp only [h26] at hK ⊢
      clear h26
      go_simp
      exact hK.out _ _ (Below.refl _ _) (rfl) trivial
     refine AS.sc rfl rfl rfl ?_ ?_
     ·intro k_ u w_ hk_ hJ hF K hK
      have h26 : u 26 = undef := AS.facts_get hF 26 (by simp)
      clear hF
      simp only [h26] at hK ⊢
      clear h26
      go_simp
      exact hK.out _ _ (Below.refl _ _) (rfl) trivial
     refine AS.sc rfl rfl rfl ?_ ?_
     ·intro k_ u w_ hk_ hJ hF K hK
      have h26 : u 26 = undef := AS.facts_get hF 26 (by simp)
      clear hF
      simp only [h26] at hK ⊢
      clear h26
      go_simp
      exact hK.out _ _ (Below.refl _ _) (rfl) trivial
     refine AS.sc rfl rfl rfl ?_ ?_
     ·intro k_ u w_ hk_ hJ hF K hK
      have h26 : u 26 = undef := AS.facts_get hF 26 (by simp)
      clear hF
      simp only [h26] at hK ⊢
      clear h26
      go_simp
      exact hK.out _ _ (Below.refl _ _) (rfl) trivial
     refine AS.sc rfl rfl rfl ?_ ?_
     ·intro k_ u w_ hk_ hJ hF K hK
      have h26 : u 26 = undef := AS.facts_get hF 26 (by simp)
      clear hF
      simp only [h26] at hK ⊢
      clear h26
      go_simp
      exact hK.out _ _ (Below.refl _ _) (rfl) trivial
     refine AS.sc rfl rfl rfl ?_ ?_
     ·intro k_ u w_ hk_ hJ hF K hK
      have h26 : u 26 = undef := AS.facts_get hF 26 (by simp)
      clear hF
      simp only [h26] at hK ⊢
      clear h26
      go_simp
      exact hK.out _ _ (Below.refl _ _) (rfl) trivial
     refine AS.sc rfl rfl rfl ?_ ?_
     ·intro k_ u w_ hk_ hJ hF K hK
      have h26 : u 26 = undef := AS.facts_get hF 26 (by simp)
      clear hF
      simp only [h26] at hK ⊢
      clear h26
      go_simp
      exact hK.out _ _ (Below.refl _ _) (rfl) trivial
     refine AS.sc rfl rfl rfl ?_ ?_
     ·intro k_ u w_ hk_ hJ hF K hK
      have h26 : u 26 = undef := AS.facts_get hF 26 (by simp)
      clear hF
      simp only [h26] at hK ⊢
      clear h26
      go_simp
      exact hK.out _ _ (Below.refl _ _) (rfl) trivial
     refine AS.sc rfl rfl rfl ?_ ?_
     ·intro k_ u w_ hk_ hJ hF K hK
      have h26 : u 26 = undef := AS.facts_get hF 26 (by simp)
      clear hF
      simp only [h26] at hK ⊢
      clear h26
      go_simp
      exact hK.out _ _ (Below.refl _ _) (rfl) trivial
     refine AS.sc rfl rfl rfl ?_ ?_
     ·intro k_ u w_ hk_ hJ hF K hK
      have h23 : u 23 = .bool true := AS.facts_get hF 23 (by simp)
      clear hF
      simp only [h23] at hK ⊢
      clear h23
      go_simp
      exact hK.out _ _ (Below.refl _ _) (rfl) trivial
     refine AS.sc rfl rfl rfl ?_ ?_
     ·intro k_ u w_ hk_ hJ hF K hK
      have h23 : u 23 = .bool true := AS.facts_get hF 23 (by simp)
      have h39 : u 39 = undef := AS.facts_get hF 39 (by simp)
      clear hF
      simp only [h23, h39] at hK ⊢
      clear h23 h39
      go_simp
      exact hK.out _ _ (Below.refl _ _) (rfl) trivial
     refine AS.sc rfl rfl rfl ?_ ?_
     ·intro k_ u w_ hk_ hJ hF K hK
      have h40 : u 40 = .bool true := AS.facts_get hF 40 (by simp)
      clear hF
      simp only [h40] at hK ⊢
      clear h40
      go_simp
      exact hK.out _ _ (Below.refl _ _) (rfl) trivial
     refine AS.sc rfl rfl rfl ?_ ?_
     ·intro k_ u w_ hk_ hJ hF K hK
      have h41 : u 41 = .bool true := AS.facts_get hF 41 (by simp)
      clear hF
      simp only [h41] at hK ⊢
      clear h41
      go_simp
      exact hK.out _ _ (Below.refl _ _) (rfl) trivial
     refine AS.sc rfl rfl rfl ?_ ?_
     ·intro k_ u w_ hk_ hJ hF K hK
      have h41 : u 41 = .bool true := AS.facts_get hF 41 (by simp)
      clear hF
      simp only [h41] at hK ⊢
      clear h41
      go_simp
      exact hK.out _ _ (Below.refl _ _) (rfl) trivial
     refine AS.sc rfl rfl rfl ?_ ?_
     ·intro k_ u w_ hk_ hJ hF K hK
      have h41 : u 41 = .bool true := AS.facts_get hF 41 (by simp)
      clear hF
      simp only [h41] at hK ⊢
      clear h41
      go_simp
      exact hK.out _ _ (Below.refl _ _) (rfl) trivial
     refine AS.sc rfl rfl rfl ?_ ?_
     ·intro k_ u w_ hk_ hJ hF K hK
      have h41 : u 41 = .bool true := AS.facts_get hF 41 (by simp)
      clear hF
      simp only [h41] at hK ⊢
      clear h41
      go_simp
      exact hK.out _ _ (Below.refl _ _) (rfl) trivial
     refine AS.sc rfl rfl rfl ?_ ?_
     ·intro k_ u w_ hk_ hJ hF K hK
      have h41 : u 41 = .bool true := AS.facts_get hF 41 (by simp)
      clear hF
      simp only [h41] at hK ⊢
      clear h41
      go_simp
      exact hK.out _ _ (Below.refl _ _) (rfl) trivial
     refine AS.sc rfl rfl rfl ?_ ?_
     ·intro k_ u w_ hk_ hJ hF K hK
      have h41 : u 41 = .bool true := AS.facts_get hF 41 (by simp)
      clear hF
      simp only [h41] at hK ⊢
      clear h41
      go_simp
      exact hK.out _ _ (Below.refl _ _) (rfl) trivial
     refine AS.sc rfl rfl rfl ?_ ?_
     ·intro k_ u w_ hk_ hJ hF K hK
      have h41 : u 41 = .bool true := AS.facts_get hF 41 (by simp)
      clear hF
      simp only [h41] at hK ⊢
      clear h41
      go_simp
      exact hK.out _ _ (Below.refl _ _) (rfl) trivial
     refine AS.sc rfl rfl rfl ?_ ?_
     ·intro k_ u w_ hk_ hJ hF K hK
      have h41 : u 41 = .bool true := AS.facts_get hF 41 (by simp)
      clear hF
      simp only [h41] at hK ⊢
      clear h41
      go_simp
      exact hK.out _ _ (Below.refl _ _) (rfl) trivial
     refine AS.sc rfl rfl rfl ?_ ?_
     ·intro k_ u w_ hk_ hJ hF K hK
      have h41 : u 41 = .bool true := AS.facts_get hF 41 (by simp)
      clear hF
      simp only [h41] at hK ⊢
      clear h41
      go_simp
      exact hK.out _ _ (Below.refl _ _) (rfl) trivial
     refine AS.sc rfl rfl rfl ?_ ?_
     ·intro k_ u w_ hk_ hJ hF K hK
      have h41 : u 41 = .bool true := AS.facts_get hF 41 (by simp)
      clear hF
      simp only [h41] at hK ⊢
      clear h41
      go_simp
      exact hK.out _ _ (Below.refl _ _) (rfl) trivial
     refine AS.sc rfl rfl rfl ?_ ?_
     ·intro k_ u w_ hk_ hJ hF K hK
      have h41 : u 41 = .bool true := AS.facts_get hF 41 (by simp)
      clear hF
      simp only [h41] at hK ⊢
      clear h41
      go_simp
      exact hK.out _ _ (Below.refl _ _) (rfl) trivial
     refine AS.sc rfl rfl rfl ?_ ?_
     ·intro k_ u w_ hk_ hJ hF K hK
      have h41 : u 41 = .bool true := AS.facts_get hF 41 (by simp)
      have h52 : u 52 = undef := AS.facts_get hF 52 (by simp)
      clear hF
      simp only [h41, h52] at hK ⊢
      clear h41 h52
      go_simp
      exact hK.out _ _ (Below.refl _ _) (rfl) trivial
     exact AS.StepsOk.nil
    ·intro u W9 hJ9 hF
     have h53 : u 53 = .bool true := AS.facts_get hF 53 (by simp [rvFa, AS.temps])
     have hB9 : Below wr.heap.size wr W9 := hJ9
     clear hF hJ9
     simp only [h53]
     clear h53
     go_wp2_with fail
     go_ret
     exact ⟨by rw [E.out]; rfl, hB.trans (hB9.mono hB.size)⟩
   ·rw [hp] at hpr
    replace HPr := Lib.hid hpr
    have htb : topB L x = decide ((climb L x.code).length ≤ L.length) := rfl
    obtain ⟨C, hC⟩ : ∃ C, climb L x.code = C := ⟨_, rfl⟩
    obtain ⟨cl, hcl⟩ : ∃ cl, C.length = cl := ⟨_, rfl⟩
    rw [hC] at hcb
    rw [hC, hcl, HN.out] at htb
    replace HCb := Lib.hid hcb
    have HCL := Lib.hid hcl
    have HTB := Lib.hid htb
    have hcl2 : cl ≤ 2000 := by have := climb_le (L := L) (c := x.code); rw [hC, hcl, HN.out] at this; omega
    have HP := Lib.hid hp
    clear hpr hcb hp hC hcl htb
    obtain ⟨q, hq⟩ : ∃ q, decide (n < cl) = q := ⟨_, rfl⟩
    have HTQ : Hid (topB L x = !q) := Lib.hid (by
     rw [HTB.out, ← hq]
     rcases Nat.lt_or_ge n cl with h1 | h1
     ·rw [decide_eq_false (show ¬ cl ≤ n by omega), decide_eq_true (show n < cl by omega)]; rfl
     ·rw [decide_eq_true (show cl ≤ n by omega), decide_eq_false (show ¬ n < cl by omega)]; rfl)
    rcases Nat.eq_zero_or_pos k with hk0 | hk0
    ·have HQ : Hid (rowB L g k = !q) := Lib.hid (by subst hk0; rw [rowB_zero (by rw [HX.out]; exact HP.out), HX.out]; exact HTQ.out)
     have e2 : decide (0 < k) = false := decide_eq_false (by omega)
     clear hk0
     refine AS.region_facts (rvFb b off n k cp g x C cl q) (HNo wr) [[], [], [], [16, 17], [18], [], [15, 19, 20], [21], [22], [23], [24, 23], [25, 23], [26], [26], [26], [26], [26], [26], [26], [26], [26], [26], [26], [26], [26, 38, 23], [23, 39], [40], [41], [41], [41], [43, 44, 41], [45, 41], [46, 41], [42, 47, 41], [48, 41], [41], [50, 41], [49, 51, 41], [41, 52]] [] [[]] [0, 0, 0, 0, 0, 0, 0, 0, 0, 0, 0, 0, 0, 0, 0, 0, 0, 0, 0, 0, 0, 0, 0, 0, 0, 0, 0, 0, 0, 0, 0, 0, 0, 0, 0, 0, 0, 0, 0] [] (fun u => by simp only [rvFb, AS.temps, List.map_cons, List.map_nil, fillL, List.setIfInBounds_toArray, List.set_cons_zero, List.set_cons_succ]; rfl) (by kernel_rfl) (by kernel_rfl) (HNo.st wr) (dc_drew (Below.refl _ _)) ?_ ?_
     ·refine AS.sc rfl rfl rfl ?_ ?_
      ·intro k_ u w_ hk_ hJ hF K hK
       clear hF
       go_simp
       exact hK.out _ _ (Below.refl _ _) (rfl) trivial
      refine AS.sc rfl rfl rfl ?_ ?_
      ·intro k_ u w_ hk_ hJ hF K hK
       clear hF
       go_simp
       exact hK.out _ _ (Below.refl _ _) (rfl) trivial
      refine AS.sc rfl rfl rfl ?_ ?_
      ·intro k_ u w_ hk_ hJ hF K hK
       clear hF
       go_simp
       exact hK.out _ _ (Below.refl _ _) (rfl) trivial
      refine AS.sc rfl rfl rfl ?_ ?_
      ·intro k_ u w_ hk_ hJ hF K hK
       have h16 : u 16 = .slice (some ⟨b, off, none⟩) (n : Nat) cp := AS.facts_get hF 16 (by simp)
       have h17 : u 17 = .int .i64 (k : Int) := AS.facts_get hF 17 (by simp)
       clear hF
       simp only [h16, h17] at hK ⊢
       clear h16 h17
       go_simp
       exact hK.out _ _ (Below.refl _ _) (rfl) trivial
      refine AS.sc rfl rfl rfl ?_ ?_
      ·intro k_ u w_ hk_ hJ hF K hK
       have h18 : u 18 = .pointer (some ⟨b, off + k * 4, none⟩) := AS.facts_get hF 18 (by simp)
       clear hF
       simp only [h18] at hK ⊢
       clear h18
       obtain ⟨c0, c1, c2, c3⟩ := HX4.out.up (hJ : Below wr.heap.size wr w_) hbW
       go_simp
       exact hK.out _ _ (Below.refl _ _) (rfl) trivial
      refine AS.sc rfl rfl rfl ?_ ?_
      ·intro k_ u w_ hk_ hJ hF K hK
       clear hF
       go_simp
       exact hK.out _ _ (Below.refl _ _) (rfl) trivial
      refine AS.sc rfl rfl rfl ?_ ?_
      ·intro k_ u w_ hk_ hJ hF K hK
       have h15 : u 15 = .slice (some ⟨b, off, none⟩) (n : Nat) cp := AS.facts_get hF 15 (by simp)
       have h19 : u 19 = accV x := AS.facts_get hF 19 (by simp)
       have h20 : u 20 = .bool g := AS.facts_get hF 20 (by simp)
       clear hF
       simp only [h15, h19, h20] at hK ⊢
       clear h15 h19 h20
       have hz9 := HZW.out.up (hJ : Below wr.heap.size wr w_)
       go_simp
       refine (HPr.out _ hz9).mono ?_
       rintro e w3 ⟨rfl, hb⟩
       exact hK.out _ _ hb (rfl) trivial
      refine AS.sc rfl rfl rfl ?_ ?_
      ·intro k_ u w_ hk_ hJ hF K hK
       have h21 : u 21 = .bool true := AS.facts_get hF 21 (by simp)
       clear hF
       simp only [h21] at hK ⊢
       clear h21
       go_simp
       exact hK.out _ _ (Below.refl _ _) (rfl) trivial
      refine AS.sc rfl rfl rfl ?_ ?_
      ·intro k_ u w_ hk_ hJ hF K hK
       have h22 : u 22 = .bool false := AS.facts_get hF 22 (by simp)
       clear hF
       simp only [h22] at hK ⊢
       clear h22
       go_simp
       exact hK.out _ _ (Below.refl _ _) (rfl) trivial
      refine AS.sc rfl rfl rfl ?_ ?_
      ·intro k_ u w_ hk_ hJ hF K hK
       have h23 : u 23 = .bool false := AS.facts_get hF 23 (by simp)
       clear hF
       simp only [h23] at hK ⊢
       clear h23
       go_simp
       exact hK.out _ _ (Below.refl _ _) (rfl) trivial
      refine AS.sc rfl rfl rfl ?_ ?_
      ·intro k_ u w_ hk_ hJ hF K hK
       have h24 : u 24 = .int .i64 (k : Int) := AS.facts_get hF 24 (by simp)
       have h23 : u 23 = .bool false := AS.facts_get hF 23 (by simp)
       clear hF
       simp only [h24, h23] at hK ⊢
       clear h24 h23
       go_simp
       exact hK.out _ _ (Below.refl _ _) (rfl) trivial
      refine AS.sc rfl rfl rfl ?_ ?_
      ·intro k_ u w_ hk_ hJ hF K hK
       have h25 : u 25 = .bool false := AS.facts_get hF 25 (by simp)
       have h23 : u 23 = .bool false := AS.facts_get hF 23 (by simp)
       clear hF
       simp only [h25, h23] at hK ⊢
       clear h25 h23
       go_simp
       exact hK.out _ _ (Below.refl _ _) (rfl) trivial
      refine AS.sc rfl rfl rfl ?_ ?_
      ·intro k_ u w_ hk_ hJ hF K hK
       have h26 : u 26 = .bool false := AS.facts_get hF 26 (by simp)
       clear hF
       simp only [h26] at hK ⊢
       clear h26
       go_simp
       exact hK.out _ _ (Below.refl _ _) (rfl) trivial
      refine AS.sc rfl rfl rfl ?_ ?_
      ·intro k_ u w_ hk_ hJ hF K hK
       have h26 : u 26 = .bool false := AS.facts_get hF 26 (by simp)
       clear hF
       simp only [h26] at hK ⊢
       clear h26
       go_simp
       exact hK.out _ _ (Below.refl _ _) (rfl) trivial
      refine AS.sc rfl rfl rfl ?_ ?_
      ·intro k_ u w_ hk_ hJ hF K hK
       have h26 : u 26 = .bool false := AS.facts_get hF 26 (by simp)
       clear hF
       simp only [h26] at hK ⊢
       clear h26
       go_simp
       exact hK.out _ _ (Below.refl _ _) (rfl) trivial
      refine AS.sc rfl rfl rfl ?_ ?_
      ·intro k_ u w_ hk_ hJ hF K hK
       have h26 : u 26 = .bool false := AS.facts_get hF 26 (by simp)
       clear hF
       simp only [h26] at hK ⊢
       clear h26
       go_simp
       exact hK.out _ _ (Below.refl _ _) (rfl) trivial
      refine AS.sc rfl rfl rfl ?_ ?_
      ·intro k_ u w_ hk_ hJ hF K hK
       have h26 : u 26 = .bool false := AS.facts_get hF 26 (by simp)
       clear hF
       simp only [h26] at hK ⊢
       clear h26
       go_simp
       exact hK.out _ _ (Below.refl _ _) (rfl) trivial
      refine AS.sc rfl rfl rfl ?_ ?_
      ·intro k_ u w_ hk_ hJ hF K hK
       have h26 : u 26 = .bool false := AS.facts_get hF 26 (by simp)
       clear hF
       simp only [h26] at hK ⊢
       clear h26
       go_simp
       exact hK.out _ _ (Below.refl _ _) (rfl) trivial
      refine AS.sc rfl rfl rfl ?_ ?_
      ·intro k_ u w_ hk_ hJ hF K hK
       have h26 : u 26 = .bool false := AS.facts_get hF 26 (by simp)
       clear hF
       simp only [h26] at hK ⊢
       clear h26
       go_simp
       exact hK.out _ _ (Below.refl _ _) (rfl) trivial
      refine AS.sc rfl rfl rfl ?_ ?_
      ·intro k_ u w_ hk_ hJ hF K hK
       have h26 : u 26 = .bool false := AS.facts_get hF 26 (by simp)
       clear hF
       simp only [h26] at hK ⊢
       clear h26
       go_simp
       exact hK.out _ _ (Below.refl _ _) (rfl) trivial
      refine AS.sc rfl rfl rfl ?_ ?_
      ·intro k_ u w_ hk_ hJ hF K hK
       have h26 : u 26 = .bool false := AS.facts_get hF 26 (by simp)
       clear hF
       simp only [h26] at hK ⊢
       clear h26
       go_simp
       exact hK.out _ _ (Below.refl _ _) (rfl) trivial
      refine AS.sc rfl rfl rfl ?_ ?_
      ·intro k_ u w_ hk_ hJ hF K hK
       have h26 : u 26 = .bool false := AS.facts_get hF 26 (by simp)
       clear hF
       simp only [h26] at hK ⊢
       clear h26
       go_simp
       exact hK.out _ _ (Below.refl _ _) (rfl) trivial
      refine AS.sc rfl rfl rfl ?_ ?_
      ·intro k_ u w_ hk_ hJ hF K hK
       have h26 : u 26 = .bool false := AS.facts_get hF 26 (by simp)
       clear hF
       simp only [h26] at hK ⊢
       clear h26
       go_simp
       exact hK.out _ _ (Below.refl _ _) (rfl) trivial
      refine AS.sc rfl rfl rfl ?_ ?_
      ·intro k_ u w_ hk_ hJ hF K hK
       have h26 : u 26 = .bool false := AS.facts_get hF 26 (by simp)
       clear hF
       simp only [h26] at hK ⊢
       clear h26
       go_simp
       exact hK.out _ _ (Below.refl _ _) (rfl) trivial
      refine AS.sc rfl rfl rfl ?_ ?_
      ·intro k_ u w_ hk_ hJ hF K hK
       have h26 : u 26 = .bool false := AS.facts_get hF 26 (by simp)
       have h38 : u 38 = undef := AS.facts_get hF 38 (by simp)
       have h23 : u 23 = .bool false := AS.facts_get hF 23 (by simp)
       clear hF
       simp only [h26, h38, h23] at hK ⊢
       clear h26 h38 h23
       go_simp
       exact hK.out _ _ (Below.refl _ _) (rfl) trivial
      refine AS.sc rfl rfl rfl ?_ ?_
      ·intro k_ u w_ hk_ hJ hF K hK
       have h23 : u 23 = .bool false := AS.facts_get hF 23 (by simp)
       have h39 : u 39 = .bool false := AS.facts_get hF 39 (by simp)
       clear hF
       simp only [h23, h39] at hK ⊢
       clear h23 h39
       go_simp
       exact hK.out _ _ (Below.refl _ _) (rfl) trivial
      refine AS.sc rfl rfl rfl ?_ ?_
      ·intro k_ u w_ hk_ hJ hF K hK
       have h40 : u 40 = .bool false := AS.facts_get hF 40 (by simp)
       clear hF
       simp only [h40] at hK ⊢
       clear h40
       go_simp
       exact hK.out _ _ (Below.refl _ _) (rfl) trivial
      refine AS.sc rfl rfl rfl ?_ ?_
      ·intro k_ u w_ hk_ hJ hF K hK
       have h41 : u 41 = .bool false := AS.facts_get hF 41 (by simp)
       clear hF
       simp only [h41] at hK ⊢
       clear h41
       go_simp
       exact hK.out _ _ (Below.refl _ _) (rfl) trivial
      refine AS.sc rfl rfl rfl ?_ ?_
      ·intro k_ u w_ hk_ hJ hF K hK
       have h41 : u 41 = .bool false := AS.facts_get hF 41 (by simp)
       clear hF
       simp only [h41] at hK ⊢
       clear h41
       go_simp
       exact hK.out _ _ (Below.refl _ _) (rfl) trivial
      refine AS.sc rfl rfl rfl ?_ ?_
      ·intro k_ u w_ hk_ hJ hF K hK
       have h41 : u 41 = .bool false := AS.facts_get hF 41 (by simp)
       clear hF
       simp only [h41] at hK ⊢
       clear h41
       go_simp
       exact hK.out _ _ (Below.refl _ _) (rfl) trivial
      refine AS.sc rfl rfl rfl ?_ ?_
      ·intro k_ u w_ hk_ hJ hF K hK
       have h43 : u 43 = .slice (some ⟨b, off, none⟩) (n : Nat) cp := AS.facts_get hF 43 (by simp)
       have h44 : u 44 = .int .i64 (k : Int) := AS.facts_get hF 44 (by simp)
       have h41 : u 41 = .bool false := AS.facts_get hF 41 (by simp)
       clear hF
       simp only [h43, h44, h41] at hK ⊢
       clear h43 h44 h41
       go_simp
       exact hK.out _ _ (Below.refl _ _) (rfl) trivial
      refine AS.sc rfl rfl rfl ?_ ?_
      ·intro k_ u w_ hk_ hJ hF K hK
       have h45 : u 45 = .pointer (some ⟨b, off + k * 4, none⟩) := AS.facts_get hF 45 (by simp)
       have h41 : u 41 = .bool false := AS.facts_get hF 41 (by simp)
       clear hF
       simp only [h45, h41] at hK ⊢
       clear h45 h41
       go_simp
       exact hK.out _ _ (Below.refl _ _) (rfl) trivial
      refine AS.sc rfl rfl rfl ?_ ?_
      ·intro k_ u w_ hk_ hJ hF K hK
       have h46 : u 46 = .pointer (some ⟨b, off + k * 4, none⟩) := AS.facts_get hF 46 (by simp)
       have h41 : u 41 = .bool false := AS.facts_get hF 41 (by simp)
       clear hF
       simp only [h46, h41] at hK ⊢
       clear h46 h41
       obtain ⟨c0, c1, c2, c3⟩ := HX4.out.up (hJ : Below wr.heap.size wr w_) hbW
       go_simp
       exact hK.out _ _ (Below.refl _ _) (rfl) trivial
      refine AS.sc rfl rfl rfl ?_ ?_
      ·intro k_ u w_ hk_ hJ hF K hK
       have h42 : u 42 = .slice (some ⟨b, off, none⟩) (n : Nat) cp := AS.facts_get hF 42 (by simp)
       have h47 : u 47 = .int .i64 x.code := AS.facts_get hF 47 (by simp)
       have h41 : u 41 = .bool false := AS.facts_get hF 41 (by simp)
       clear hF
       simp only [h42, h47, h41] at hK ⊢
       clear h42 h47 h41
       have hz9 := HZW.out.up (hJ : Below wr.heap.size wr w_)
       go_simp
       refine (HCb.out _ hz9).mono ?_
       rintro e w3 ⟨v, rfl, h9, hb⟩
       exact hK.out _ _ hb h9 trivial
      refine AS.sc rfl rfl rfl ?_ ?_
      ·intro k_ u w_ hk_ hJ hF K hK
       have h48 : SlI w_ (u 48) C := AS.facts_get hF 48 (by simp)
       have h41 : u 41 = .bool false := AS.facts_get hF 41 (by simp)
       clear hF
       obtain ⟨A8, d8, h48, -⟩ := h48
       rw [HCL.out] at h48
       simp only [h48, h41] at hK ⊢
       clear h48 h41
       go_simp
       exact hK.out _ _ (Below.refl _ _) (rfl) trivial
      refine AS.sc rfl rfl rfl ?_ ?_
      ·intro k_ u w_ hk_ hJ hF K hK
       have h41 : u 41 = .bool false := AS.facts_get hF 41 (by simp)
       clear hF
       simp only [h41] at hK ⊢
       clear h41
       go_simp
       exact hK.out _ _ (Below.refl _ _) (rfl) trivial
      refine AS.sc rfl rfl rfl ?_ ?_
      ·intro k_ u w_ hk_ hJ hF K hK
       have h50 : u 50 = .slice (some ⟨b, off, none⟩) (n : Nat) cp := AS.facts_get hF 50 (by simp)
       have h41 : u 41 = .bool false := AS.facts_get hF 41 (by simp)
       clear hF
       simp only [h50, h41] at hK ⊢
       clear h50 h41
       go_simp
       exact hK.out _ _ (Below.refl _ _) (rfl) trivial
      refine AS.sc rfl rfl rfl ?_ ?_
      ·intro k_ u w_ hk_ hJ hF K hK
       have h49 : u 49 = .int .i64 (cl : Int) := AS.facts_get hF 49 (by simp)
       have h51 : u 51 = .int .i64 (n : Int) := AS.facts_get hF 51 (by simp)
       have h41 : u 41 = .bool false := AS.facts_get hF 41 (by simp)
       clear hF
       simp only [h49, h51, h41] at hK ⊢
       clear h49 h51 h41
       go_simp
       exact hK.out _ _ (Below.refl _ _) (rfl) trivial
      refine AS.sc rfl rfl rfl ?_ ?_
      ·intro k_ u w_ hk_ hJ hF K hK
       have h41 : u 41 = .bool false := AS.facts_get hF 41 (by simp)
       have h52 : u 52 = .bool q := AS.facts_get hF 52 (by simp)
       clear hF
       simp only [h41, h52] at hK ⊢
       clear h41 h52
       go_simp
       exact hK.out _ _ (Below.refl _ _) (rfl) trivial
      exact AS.StepsOk.nil
     ·intro u W9 hJ9 hF
      have h53 : u 53 = .bool q := AS.facts_get hF 53 (by simp [rvFb, AS.temps])
      have hB9 : Below wr.heap.size wr W9 := hJ9
      clear hF hJ9
      simp only [h53]
      clear h53
      cases q
      ·have HR2 : Hid (rowsTo L g (k + 1) = true) := Lib.hid (by rw [rowsTo, HR.out, HQ.out]; rfl)
       go_wp2_with fail
       go_roundg (n - (k + 1))
       case measure => omega
       case rel => exact ⟨k + 1, by go_num, by omega, by omega, HR2, hB.trans (hB9.mono hB.size)⟩
      ·have E : Hid (rvB L g = false) := Lib.hid (rvB_no (k := k) (by rw [HN.out]; exact hlt) HQ.out)
       go_wp2_with fail
       go_ret
       exact ⟨by rw [E.out]; rfl, hB.trans (hB9.mono hB.size)⟩
    ·obtain ⟨j, hj⟩ : ∃ j, k = j + 1 := ⟨k - 1, by omega⟩
     have hjn : j < n := by omega
     have hjz : (j : Int) < (n : Int) := by omega
     have hj1 : (k : Int) - 1 = (j : Int) := by omega
     have hj2 : IntKind.i64.wrap (j : Int) = (j : Int) := IntWalk.i64_in _ (by omega)
     have e2 : decide (0 < k) = true := decide_eq_true (by omega)
     obtain ⟨y, hy⟩ : ∃ y, L.getD j acc0 = y := ⟨_, rfl⟩
     have hy4 := HCS.out j (by rw [HN.out]; omega)
     rw [hy] at hy4
     have HY4 := Lib.hid hy4
     have HY := Lib.hid hy
     have HJ := Lib.hid hj
     clear hy4 hy hj hk0
     rcases Int.lt_or_le y.code x.code with h8 | h8
     ·have HQ : Hid (rowB L g k = !q) := Lib.hid (by
       have h1 := HX.out
       rw [HJ.out] at h1 ⊢
       rw [rowB_up (by rw [h1]; exact HP.out) (by rw [h1, HY.out]; exact h8), h1]; exact HTQ.out)
      have e3 : decide (x.code ≤ y.code) = false := decide_eq_false (by omega)
      clear h8
      refine AS.region_facts (rvFd b off n k j cp g x y C cl q) (HNo wr) [[], [], [], [16, 17], [18], [], [15, 19, 20], [21], [22], [23], [24, 23], [25, 23], [26], [26], [27, 28, 26], [29, 26], [30, 26], [26], [26], [33, 26], [32, 34, 26], [35, 26], [36, 26], [31, 37, 26], [26, 38, 23], [23, 39], [40], [41], [41], [41], [43, 44, 41], [45, 41], [46, 41], [42, 47, 41], [48, 41], [41], [50, 41], [49, 51, 41], [41, 52]] [] [[]] [0, 0, 0, 0, 0, 0, 0, 0, 0, 0, 0, 0, 0, 0, 0, 0, 0, 0, 0, 0, 0, 0, 0, 0, 0, 0, 0, 0, 0, 0, 0, 0, 0, 0, 0, 0, 0, 0, 0] [] (fun u => by simp only [rvFd, AS.temps, List.map_cons, List.map_nil, fillL, List.setIfInBounds_toArray, List.set_cons_zero, List.set_cons_succ]; rfl) (by kernel_rfl) (by kernel_rfl) (HNo.st wr) (dc_drew (Below.refl _ _)) ?_ ?_
      ·refine AS.sc rfl rfl rfl ?_ ?_
       ·intro k_ u w_ hk_ hJ hF K hK
        clear hF
        go_simp
        exact hK.out _ _ (Below.refl _ _) (rfl) trivial
       refine AS.sc rfl rfl rfl ?_ ?_
       ·intro k_ u w_ hk_ hJ hF K hK
        clear hF
        go_simp
        exact hK.out _ _ (Below.refl _ _) (rfl) trivial
       refine AS.sc rfl rfl rfl ?_ ?_
       ·intro k_ u w_ hk_ hJ hF K hK
        clear hF
        go_simp
        exact hK.out _ _ (Below.refl _ _) (rfl) trivial
       refine AS.sc rfl rfl rfl ?_ ?_
       ·intro k_ u w_ hk_ hJ hF K hK
        have h16 : u 16 = .slice (some ⟨b, off, none⟩) (n : Nat) cp := AS.facts_get hF 16 (by simp)
        have h17 : u 17 = .int .i64 (k : Int) := AS.facts_get hF 17 (by simp)
        clear hF
        simp only [h16, h17] at hK ⊢
        clear h16 h17
        go_simp
        exact hK.out _ _ (Below.refl _ _) (rfl) trivial
       refine AS.sc rfl rfl rfl ?_ ?_
       ·intro k_ u w_ hk_ hJ hF K hK
        have h18 : u 18 = .pointer (some ⟨b, off + k * 4, none⟩) := AS.facts_get hF 18 (by simp)
        clear hF
        simp only [h18] at hK ⊢
        clear h18
        obtain ⟨c0, c1, c2, c3⟩ := HX4.out.up (hJ : Below wr.heap.size wr w_) hbW
        go_simp
        exact hK.out _ _ (Below.refl _ _) (rfl) trivial
       refine AS.sc rfl rfl rfl ?_ ?_
       ·intro k_ u w_ hk_ hJ hF K hK
        clear hF
        go_simp
        exact hK.out _ _ (Below.refl _ _) (rfl) trivial
       refine AS.sc rfl rfl rfl ?_ ?_
       ·intro k_ u w_ hk_ hJ hF K hK
        have h15 : u 15 = .slice (some ⟨b, off, none⟩) (n : Nat) cp := AS.facts_get hF 15 (by simp)
        have h19 : u 19 = accV x := AS.facts_get hF 19 (by simp)
        have h20 : u 20 = .bool g := AS.facts_get hF 20 (by simp)
        clear hF
        simp only [h15, h19, h20] at hK ⊢
        clear h15 h19 h20
        have hz9 := HZW.out.up (hJ : Below wr.heap.size wr w_)
        go_simp
        refine (HPr.out _ hz9).mono ?_
        rintro e w3 ⟨rfl, hb⟩
        exact hK.out _ _ hb (rfl) trivial
       refine AS.sc rfl rfl rfl ?_ ?_
       ·intro k_ u w_ hk_ hJ hF K hK
        have h21 : u 21 = .bool true := AS.facts_get hF 21 (by simp)
        clear hF
        simp only [h21] at hK ⊢
        clear h21
        go_simp
        exact hK.out _ _ (Below.refl _ _) (rfl) trivial
       refine AS.sc rfl rfl rfl ?_ ?_
       ·intro k_ u w_ hk_ hJ hF K hK
        have h22 : u 22 = .bool false := AS.facts_get hF 22 (by simp)
        clear hF
        simp only [h22] at hK ⊢
        clear h22
        go_simp
        exact hK.out _ _ (Below.refl _ _) (rfl) trivial
       refine AS.sc rfl rfl rfl ?_ ?_
       ·intro k_ u w_ hk_ hJ hF K hK
        have h23 : u 23 = .bool false := AS.facts_get hF 23 (by simp)
        clear hF
        simp only [h23] at hK ⊢
        clear h23
        go_simp
        exact hK.out _ _ (Below.refl _ _) (rfl) trivial
       refine AS.sc rfl rfl rfl ?_ ?_
       ·intro k_ u w_ hk_ hJ hF K hK
        have h24 : u 24 = .int .i64 (k : Int) := AS.facts_get hF 24 (by simp)
        have h23 : u 23 = .bool false := AS.facts_get hF 23 (by simp)
        clear hF
        simp only [h24, h23] at hK ⊢
        clear h24 h23
        go_simp
        exact hK.out _ _ (Below.refl _ _) (rfl) trivial
       refine AS.sc rfl rfl rfl ?_ ?_
       ·intro k_ u w_ hk_ hJ hF K hK
        have h25 : u 25 = .bool true := AS.facts_get hF 25 (by simp)
        have h23 : u 23 = .bool false := AS.facts_get hF 23 (by simp)
        clear hF
        simp only [h25, h23] at hK ⊢
        clear h25 h23
        go_simp
        exact hK.out _ _ (Below.refl _ _) (rfl) trivial
       refine AS.sc rfl rfl rfl ?_ ?_
       ·intro k_ u w_ hk_ hJ hF K hK
        have h26 : u 26 = .bool true := AS.facts_get hF 26 (by simp)
        clear hF
        simp only [h26] at hK ⊢
        clear h26
        go_simp
        exact hK.out _ _ (Below.refl _ _) (rfl) trivial
       refine AS.sc rfl rfl rfl ?_ ?_
       ·intro k_ u w_ hk_ hJ hF K hK
        have h26 : u 26 = .bool true := AS.facts_get hF 26 (by simp)
        clear hF
        simp only [h26] at hK ⊢
        clear h26
        go_simp
        exact hK.out _ _ (Below.refl _ _) (rfl) trivial
       refine AS.sc rfl rfl rfl ?_ ?_
       ·intro k_ u w_ hk_ hJ hF K hK
        have h27 : u 27 = .slice (some ⟨b, off, none⟩) (n : Nat) cp := AS.facts_get hF 27 (by simp)
        have h28 : u 28 = .int .i64 (k : Int) := AS.facts_get hF 28 (by simp)
        have h26 : u 26 = .bool true := AS.facts_get hF 26 (by simp)
        clear hF
        simp only [h27, h28, h26] at hK ⊢
        clear h27 h28 h26
        go_simp
        exact hK.out _ _ (Below.refl _ _) (rfl) trivial
       refine AS.sc rfl rfl rfl ?_ ?_
       ·intro k_ u w_ hk_ hJ hF K hK
        have h29 : u 29 = .pointer (some ⟨b, off + k * 4, none⟩) := AS.facts_get hF 29 (by simp)
        have h26 : u 26 = .bool true := AS.facts_get hF 26 (by simp)
        clear hF
        simp only [h29, h26] at hK ⊢
        clear h29 h26
        go_simp
        exact hK.out _ _ (Below.refl _ _) (rfl) trivial
       refine AS.sc rfl rfl rfl ?_ ?_
       ·intro k_ u w_ hk_ hJ hF K hK
        have h30 : u 30 = .pointer (some ⟨b, off + k * 4, none⟩) := AS.facts_get hF 30 (by simp)
        have h26 : u 26 = .bool true := AS.facts_get hF 26 (by simp)
        clear hF
        simp only [h30, h26] at hK ⊢
        clear h30 h26
        obtain ⟨c0, c1, c2, c3⟩ := HX4.out.up (hJ : Below wr.heap.size wr w_) hbW
        go_simp
        exact hK.out _ _ (Below.refl _ _) (rfl) trivial
       refine AS.sc rfl rfl rfl ?_ ?_
       ·intro k_ u w_ hk_ hJ hF K hK
        have h26 : u 26 = .bool true := AS.facts_get hF 26 (by simp)
        clear hF
        simp only [h26] at hK ⊢
        clear h26
        go_simp
        exact hK.out _ _ (Below.refl _ _) (rfl) trivial
       refine AS.sc rfl rfl rfl ?_ ?_
       ·intro k_ u w_ hk_ hJ hF K hK
        have h26 : u 26 = .bool true := AS.facts_get hF 26 (by simp)
        clear hF
        simp only [h26] at hK ⊢
        clear h26
        go_simp
        exact hK.out _ _ (Below.refl _ _) (rfl) trivial
       refine AS.sc rfl rfl rfl ?_ ?_
       ·intro k_ u w_ hk_ hJ hF K hK
        have h33 : u 33 = .int .i64 (k : Int) := AS.facts_get hF 33 (by simp)
        have h26 : u 26 = .bool true := AS.facts_get hF 26 (by simp)
        clear hF
        simp only [h33, h26] at hK ⊢
        clear h33 h26
        go_simp
        exact hK.out _ _ (Below.refl _ _) (rfl) trivial
       refine AS.sc rfl rfl rfl ?_ ?_
       ·intro k_ u w_ hk_ hJ hF K hK
        have h32 : u 32 = .slice (some ⟨b, off, none⟩) (n : Nat) cp := AS.facts_get hF 32 (by simp)
        have h34 : u 34 = .int .i64 (j : Int) := AS.facts_get hF 34 (by simp)
        have h26 : u 26 = .bool true := AS.facts_get hF 26 (by simp)
        clear hF
        simp only [h32, h34, h26] at hK ⊢
        clear h32 h34 h26
        go_simp
        exact hK.out _ _ (Below.refl _ _) (rfl) trivial
       refine AS.sc rfl rfl rfl ?_ ?_
       ·intro k_ u w_ hk_ hJ hF K hK
        have h35 : u 35 = .pointer (some ⟨b, off + j * 4, none⟩) := AS.facts_get hF 35 (by simp)
        have h26 : u 26 = .bool true := AS.facts_get hF 26 (by simp)
        clear hF
        simp only [h35, h26] at hK ⊢
        clear h35 h26
        go_simp
        exact hK.out _ _ (Below.refl _ _) (rfl) trivial
       refine AS.sc rfl rfl rfl ?_ ?_
       ·intro k_ u w_ hk_ hJ hF K hK
        have h36 : u 36 = .pointer (some ⟨b, off + j * 4, none⟩) := AS.facts_get hF 36 (by simp)
        have h26 : u 26 = .bool true := AS.facts_get hF 26 (by simp)
        clear hF
        simp only [h36, h26] at hK ⊢
        clear h36 h26
        obtain ⟨c0, c1, c2, c3⟩ := HY4.out.up (hJ : Below wr.heap.size wr w_) hbW
        go_simp
        exact hK.out _ _ (Below.refl _ _) (rfl) trivial
       refine AS.sc rfl rfl rfl ?_ ?_
       ·intro k_ u w_ hk_ hJ hF K hK
        have h31 : u 31 = .int .i64 x.code := AS.facts_get hF 31 (by simp)
        have h37 : u 37 = .int .i64 y.code := AS.facts_get hF 37 (by simp)
        have h26 : u 26 = .bool true := AS.facts_get hF 26 (by simp)
        clear hF
        simp only [h31, h37, h26] at hK ⊢
        clear h31 h37 h26
        go_simp
        exact hK.out _ _ (Below.refl _ _) (rfl) trivial
       refine AS.sc rfl rfl rfl ?_ ?_
       ·intro k_ u w_ hk_ hJ hF K hK
        have h26 : u 26 = .bool true := AS.facts_get hF 26 (by simp)
        have h38 : u 38 = .bool false := AS.facts_get hF 38 (by simp)
        have h23 : u 23 = .bool false := AS.facts_get hF 23 (by simp)
        clear hF
        simp only [h26, h38, h23] at hK ⊢
        clear h26 h38 h23
        go_simp
        exact hK.out _ _ (Below.refl _ _) (rfl) trivial
       refine AS.sc rfl rfl rfl ?_ ?_
       ·intro k_ u w_ hk_ hJ hF K hK
        have h23 : u 23 = .bool false := AS.facts_get hF 23 (by simp)
        have h39 : u 39 = .bool false := AS.facts_get hF 39 (by simp)
        clear hF
        simp only [h23, h39] at hK ⊢
        clear h23 h39
        go_simp
        exact hK.out _ _ (Below.refl _ _) (rfl) trivial
       refine AS.sc rfl rfl rfl ?_ ?_
       ·intro k_ u w_ hk_ hJ hF K hK
        have h40 : u 40 = .bool false := AS.facts_get hF 40 (by simp)
        clear hF
        simp only [h40] at hK ⊢
        clear h40
        go_simp
        exact hK.out _ _ (Below.refl _ _) (rfl) trivial
       refine AS.sc rfl rfl rfl ?_ ?_
       ·intro k_ u w_ hk_ hJ hF K hK
        have h41 : u 41 = .bool false := AS.facts_get hF 41 (by simp)
        clear hF
        simp only [h41] at hK ⊢
        clear h41
        go_simp
        exact hK.out _ _ (Below.refl _ _) (rfl) trivial
       refine AS.sc rfl rfl rfl ?_ ?_
       ·intro k_ u w_ hk_ hJ hF K hK
        have h41 : u 41 = .bool false := AS.facts_get hF 41 (by simp)
        clear hF
        simp only [h41] at hK ⊢
        clear h41
        go_simp
        exact hK.out _ _ (Below.refl _ _) (rfl) trivial
       refine AS.sc rfl rfl rfl ?_ ?_
       ·intro k_ u w_ hk_ hJ hF K hK
        have h41 : u 41 = .bool false := AS.facts_get hF 41 (by simp)
        clear hF
        simp only [h41] at hK ⊢
        clear h41
        go_simp
        exact hK.out _ _ (Below.refl _ _) (rfl) trivial
       refine AS.sc rfl rfl rfl ?_ ?_
       ·intro k_ u w_ hk_ hJ hF K hK
        have h43 : u 43 = .slice (some ⟨b, off, none⟩) (n : Nat) cp := AS.facts_get hF 43 (by simp)
        have h44 : u 44 = .int .i64 (k : Int) := AS.facts_get hF 44 (by simp)
        have h41 : u 41 = .bool false := AS.facts_get hF 41 (by simp)
        clear hF
        simp only [h43, h44, h41] at hK ⊢
        clear h43 h44 h41
        go_simp
        exact hK.out _ _ (Below.refl _ _) (rfl) trivial
       refine AS.sc rfl rfl rfl ?_ ?_
       ·intro k_ u w_ hk_ hJ hF K hK
        have h45 : u 45 = .pointer (some ⟨b, off + k * 4, none⟩) := AS.facts_get hF 45 (by simp)
        have h41 : u 41 = .bool false := AS.facts_get hF 41 (by simp)
        clear hF
        simp only [h45, h41] at hK ⊢
        clear h45 h41
        go_simp
        exact hK.out _ _ (Below.refl _ _) (rfl) trivial
       refine AS.sc rfl rfl rfl ?_ ?_
       ·intro k_ u w_ hk_ hJ hF K hK
        have h46 : u 46 = .pointer (some ⟨b, off + k * 4, none⟩) := AS.facts_get hF 46 (by simp)
        have h41 : u 41 = .bool false := AS.facts_get hF 41 (by simp)
        clear hF
        simp only [h46, h41] at hK ⊢
        clear h46 h41
        obtain ⟨c0, c1, c2, c3⟩ := HX4.out.up (hJ : Below wr.heap.size wr w_) hbW
        go_simp
        exact hK.out _ _ (Below.refl _ _) (rfl) trivial
       refine AS.sc rfl rfl rfl ?_ ?_
       ·intro k_ u w_ hk_ hJ hF K hK
        have h42 : u 42 = .slice (some ⟨b, off, none⟩) (n : Nat) cp := AS.facts_get hF 42 (by simp)
        have h47 : u 47 = .int .i64 x.code := AS.facts_get hF 47 (by simp)
        have h41 : u 41 = .bool false := AS.facts_get hF 41 (by simp)
        clear hF
        simp only [h42, h47, h41] at hK ⊢
        clear h42 h47 h41
        have hz9 := HZW.out.up (hJ : Below wr.heap.size wr w_)
        go_simp
        refine (HCb.out _ hz9).mono ?_
        rintro e w3 ⟨v, rfl, h9, hb⟩
        exact hK.out _ _ hb h9 trivial
       refine AS.sc rfl rfl rfl ?_ ?_
       ·intro k_ u w_ hk_ hJ hF K hK
        have h48 : SlI w_ (u 48) C := AS.facts_get hF 48 (by simp)
        have h41 : u 41 = .bool false := AS.facts_get hF 41 (by simp)
        clear hF
        obtain ⟨A8, d8, h48, -⟩ := h48
        rw [HCL.out] at h48
        simp only [h48, h41] at hK ⊢
        clear h48 h41
        go_simp
        exact hK.out _ _ (Below.refl _ _) (rfl) trivial
       refine AS.sc rfl rfl rfl ?_ ?_
       ·intro k_ u w_ hk_ hJ hF K hK
        have h41 : u 41 = .bool false := AS.facts_get hF 41 (by simp)
        clear hF
        simp only [h41] at hK ⊢
        clear h41
        go_simp
        exact hK.out _ _ (Below.refl _ _) (rfl) trivial
       refine AS.sc rfl rfl rfl ?_ ?_
       ·intro k_ u w_ hk_ hJ hF K hK
        have h50 : u 50 = .slice (some ⟨b, off, none⟩) (n : Nat) cp := AS.facts_get hF 50 (by simp)
        have h41 : u 41 = .bool false := AS.facts_get hF 41 (by simp)
        clear hF
        simp only [h50, h41] at hK ⊢
        clear h50 h41
        go_simp
        exact hK.out _ _ (Below.refl _ _) (rfl) trivial
       refine AS.sc rfl rfl rfl ?_ ?_
       ·intro k_ u w_ hk_ hJ hF K hK
        have h49 : u 49 = .int .i64 (cl : Int) := AS.facts_get hF 49 (by simp)
        have h51 : u 51 = .int .i64 (n : Int) := AS.facts_get hF 51 (by simp)
        have h41 : u 41 = .bool false := AS.facts_get hF 41 (by simp)
        clear hF
        simp only [h49, h51, h41] at hK ⊢
        clear h49 h51 h41
        go_simp
        exact hK.out _ _ (Below.refl _ _) (rfl) trivial
       refine AS.sc rfl rfl rfl ?_ ?_
       ·intro k_ u w_ hk_ hJ hF K hK
        have h41 : u 41 = .bool false := AS.facts_get hF 41 (by simp)
        have h52 : u 52 = .bool q := AS.facts_get hF 52 (by simp)
        clear hF
        simp only [h41, h52] at hK ⊢
        clear h41 h52
        go_simp
        exact hK.out _ _ (Below.refl _ _) (rfl) trivial
       exact AS.StepsOk.nil
      ·intro u W9 hJ9 hF
       have h53 : u 53 = .bool q := AS.facts_get hF 53 (by simp [rvFd, AS.temps])
       have hB9 : Below wr.heap.size wr W9 := hJ9
       clear hF hJ9
       simp only [h53]
       clear h53
       cases q
       ·have HR2 : Hid (rowsTo L g (k + 1) = true) := Lib.hid (by rw [rowsTo, HR.out, HQ.out]; rfl)
        go_wp2_with fail
        go_roundg (n - (k + 1))
        case measure => omega
        case rel => exact ⟨k + 1, by go_num, by omega, by omega, HR2, hB.trans (hB9.mono hB.size)⟩
       ·have E : Hid (rvB L g = false) := Lib.hid (rvB_no (k := k) (by rw [HN.out]; exact hlt) HQ.out)
        go_wp2_with fail
        go_ret
        exact ⟨by rw [E.out]; rfl, hB.trans (hB9.mono hB.size)⟩
     ·have E : Hid (rvB L g = false) := Lib.hid (rvB_no (k := k) (by rw [HN.out]; exact hlt) (by
       have h1 := HX.out
       rw [HJ.out] at h1 ⊢
       exact rowB_down (by rw [h1, HY.out]; exact h8)))
      have e3 : decide (x.code ≤ y.code) = true := decide_eq_true h8
      clear h8 hq
      refine AS.region_facts (rvFc b off n k j cp g x y) (HNo wr) [[], [], [], [16, 17], [18], [], [15, 19, 20], [21], [22], [23], [24, 23], [25, 23], [26], [26], [27, 28, 26], [29, 26], [30, 26], [26], [26], [33, 26], [32, 34, 26], [35, 26], [36, 26], [31, 37, 26], [26, 38, 23], [23, 39], [40], [41], [41], [41], [41], [41], [41], [41], [41], [41], [41], [41], [41, 52]] [] [[]] [0, 0, 0, 0, 0, 0, 0, 0, 0, 0, 0, 0, 0, 0, 0, 0, 0, 0, 0, 0, 0, 0, 0, 0, 0, 0, 0, 0, 0, 0, 0, 0, 0, 0, 0, 0, 0, 0, 0] [] (fun u => by simp only [rvFc, AS.temps, List.map_cons, List.map_nil, fillL, List.setIfInBounds_toArray, List.set_cons_zero, List.set_cons_succ]; rfl) (by kernel_rfl) (by kernel_rfl) (HNo.st wr) (dc_drew (Below.refl _ _)) ?_ ?_
      ·refine AS.sc rfl rfl rfl ?_ ?_
       ·intro k_ u w_ hk_ hJ hF K hK
        clear hF
        go_simp
        exact hK.out _ _ (Below.refl _ _) (rfl) trivial
       refine AS.sc rfl rfl rfl ?_ ?_
       ·intro k_ u w_ hk_ hJ hF K hK
        clear hF
        go_simp
        exact hK.out _ _ (Below.refl _ _) (rfl) trivial
       refine AS.sc rfl rfl rfl ?_ ?_
       ·intro k_ u w_ hk_ hJ hF K hK
        clear hF
        go_simp
        exact hK.out _ _ (Below.refl _ _) (rfl) trivial
       refine AS.sc rfl rfl rfl ?_ ?_
       ·intro k_ u w_ hk_ hJ hF K hK
        have h16 : u 16 = .slice (some ⟨b, off, none⟩) (n : Nat) cp := AS.facts_get hF 16 (by simp)
        have h17 : u 17 = .int .i64 (k : Int) := AS.facts_get hF 17 (by simp)
        clear hF
        simp only [h16, h17] at hK ⊢
        clear h16 h17
        go_simp
        exact hK.out _ _ (Below.refl _ _) (rfl) trivial
       refine AS.sc rfl rfl rfl ?_ ?_
       ·intro k_ u w_ hk_ hJ hF K hK
        have h18 : u 18 = .pointer (some ⟨b, off + k * 4, none⟩) := AS.facts_get hF 18 (by simp)
        clear hF
        simp only [h18] at hK ⊢
        clear h18
        obtain ⟨c0, c1, c2, c3⟩ := HX4.out.up (hJ : Below wr.heap.size wr w_) hbW
        go_simp
        exact hK.out _ _ (Below.refl _ _) (rfl) trivial
       refine AS.sc rfl rfl rfl ?_ ?_
       ·intro k_ u w_ hk_ hJ hF K hK
        clear hF
        go_simp
        exact hK.out _ _ (Below.refl _ _) (rfl) trivial
       refine AS.sc rfl rfl rfl ?_ ?_
       ·intro k_ u w_ hk_ hJ hF K hK
        have h15 : u 15 = .slice (some ⟨b, off, none⟩) (n : Nat) cp := AS.facts_get hF 15 (by simp)
        have h19 : u 19 = accV x := AS.facts_get hF 19 (by simp)
        have h20 : u 20 = .bool g := AS.facts_get hF 20 (by simp)
        clear hF
        simp only [h15, h19, h20] at hK ⊢
        clear h15 h19 h20
        have hz9 := HZW.out.up (hJ : Below wr.heap.size wr w_)
        go_simp
        refine (HPr.out _ hz9).mono ?_
        rintro e w3 ⟨rfl, hb⟩
        exact hK.out _ _ hb (rfl) trivial
       refine AS.sc rfl rfl rfl ?_ ?_
       ·intro k_ u w_ hk_ hJ hF K hK
        have h21 : u 21 = .bool true := AS.facts_get hF 21 (by simp)
        clear hF
        simp only [h21] at hK ⊢
        clear h21
        go_simp
        exact hK.out _ _ (Below.refl _ _) (rfl) trivial
       refine AS.sc rfl rfl rfl ?_ ?_
       ·intro k_ u w_ hk_ hJ hF K hK
        have h22 : u 22 = .bool false := AS.facts_get hF 22 (by simp)
        clear hF
        simp only [h22] at hK ⊢
        clear h22
        go_simp
        exact hK.out _ _ (Below.refl _ _) (rfl) trivial
       refine AS.sc rfl rfl rfl ?_ ?_
       ·intro k_ u w_ hk_ hJ hF K hK
        have h23 : u 23 = .bool false := AS.facts_get hF 23 (by simp)
        clear hF
        simp only [h23] at hK ⊢
        clear h23
        go_simp
        exact hK.out _ _ (Below.refl _ _) (rfl) trivial
       refine AS.sc rfl rfl rfl ?_ ?_
       ·intro k_ u w_ hk_ hJ hF K hK
        have h24 : u 24 = .int .i64 (k : Int) := AS.facts_get hF 24 (by simp)
        have h23 : u 23 = .bool false := AS.facts_get hF 23 (by simp)
        clear hF
        simp only [h24, h23] at hK ⊢
        clear h24 h23
        go_simp
        exact hK.out _ _ (Below.refl _ _) (rfl) trivial
       refine AS.sc rfl rfl rfl ?_ ?_
       ·intro k_ u w_ hk_ hJ hF K hK
        have h25 : u 25 = .bool true := AS.facts_get hF 25 (by simp)
        have h23 : u 23 = .bool false := AS.facts_get hF 23 (by simp)
        clear hF
        simp only [h25, h23] at hK ⊢
        clear h25 h23
        go_simp
        exact hK.out _ _ (Below.refl _ _) (rfl) trivial
       refine AS.sc rfl rfl rfl ?_ ?_
       ·intro k_ u w_ hk_ hJ hF K hK
        have h26 : u 26 = .bool true := AS.facts_get hF 26 (by simp)
        clear hF
        simp only [h26] at hK ⊢
        clear h26
        go_simp
        exact hK.out _ _ (Below.refl _ _) (rfl) trivial
       refine AS.sc rfl rfl rfl ?_ ?_
       ·intro k_ u w_ hk_ hJ hF K hK
        have h26 : u 26 = .bool true := AS.facts_get hF 26 (by simp)
        clear hF
        simp only [h26] at hK ⊢
        clear h26
        go_simp
        exact hK.out _ _ (Below.refl _ _) (rfl) trivial
       refine AS.sc rfl rfl rfl ?_ ?_
       ·intro k_ u w_ hk_ hJ hF K hK
        have h27 : u 27 = .slice (some ⟨b, off, none⟩) (n : Nat) cp := AS.facts_get hF 27 (by simp)
        have h28 : u 28 = .int .i64 (k : Int) := AS.facts_get hF 28 (by simp)
        have h26 : u 26 = .bool true := AS.facts_get hF 26 (by simp)
        clear hF
        simp only [h27, h28, h26] at hK ⊢
        clear h27 h28 h26
        go_simp
        exact hK.out _ _ (Below.refl _ _) (rfl) trivial
       refine AS.sc rfl rfl rfl ?_ ?_
       ·intro k_ u w_ hk_ hJ hF K hK
        have h29 : u 29 = .pointer (some ⟨b, off + k * 4, none⟩) := AS.facts_get hF 29 (by simp)
        have h26 : u 26 = .bool true := AS.facts_get hF 26 (by simp)
        clear hF
        simp only [h29, h26] at hK ⊢
        clear h29 h26
        go_simp
        exact hK.out _ _ (Below.refl _ _) (rfl) trivial
       refine AS.sc rfl rfl rfl ?_ ?_
       ·intro k_ u w_ hk_ hJ hF K hK
        have h30 : u 30 = .pointer (some ⟨b, off + k * 4, none⟩) := AS.facts_get hF 30 (by simp)
        have h26 : u 26 = .bool true := AS.facts_get hF 26 (by simp)
        clear hF
        simp only [h30, h26] at hK ⊢
        clear h30 h26
        obtain ⟨c0, c1, c2, c3⟩ := HX4.out.up (hJ : Below wr.heap.size wr w_) hbW
        go_simp
        exact hK.out _ _ (Below.refl _ _) (rfl) trivial
       refine AS.sc rfl rfl rfl ?_ ?_
       ·intro k_ u w_ hk_ hJ hF K hK
        have h26 : u 26 = .bool true := AS.facts_get hF 26 (by simp)
        clear hF
        simp only [h26] at hK ⊢
        clear h26
        go_simp
        exact hK.out _ _ (Below.refl _ _) (rfl) trivial
       refine AS.sc rfl rfl rfl ?_ ?_
       ·intro k_ u w_ hk_ hJ hF K hK
        have h26 : u 26 = .bool true := AS.facts_get hF 26 (by simp)
        clear hF
        simp only [h26] at hK ⊢
        clear h26
        go_simp
        exact hK.out _ _ (Below.refl _ _) (rfl) trivial
       refine AS.sc rfl rfl rfl ?_ ?_
       ·intro k_ u w_ hk_ hJ hF K hK
        have h33 : u 33 = .int .i64 (k : Int) := AS.facts_get hF 33 (by simp)
        have h26 : u 26 = .bool true := AS.facts_get hF 26 (by simp)
        clear hF
        simp only [h33, h26] at hK ⊢
        clear h33 h26
        go_simp
        exact hK.out _ _ (Below.refl _ _) (rfl) trivial
       refine AS.sc rfl rfl rfl ?_ ?_
       ·intro k_ u w_ hk_ hJ hF K hK
        have h32 : u 32 = .slice (some ⟨b, off, none⟩) (n : Nat) cp := AS.facts_get hF 32 (by simp)
        have h34 : u 34 = .int .i64 (j : Int) := AS.facts_get hF 34 (by simp)
        have h26 : u 26 = .bool true := AS.facts_get hF 26 (by simp)
        clear hF
        simp only [h32, h34, h26] at hK ⊢
        clear h32 h34 h26
        go_simp
        exact hK.out _ _ (Below.refl _ _) (rfl) trivial
       refine AS.sc rfl rfl rfl ?_ ?_
       ·intro k_ u w_ hk_ hJ hF K hK
        have h35 : u 35 = .pointer (some ⟨b, off + j * 4, none⟩) := AS.facts_get hF 35 (by simp)
        have h26 : u 26 = .bool true := AS.facts_get hF 26 (by simp)
        clear hF
        simp only [h35, h26] at hK ⊢
        clear h35 h26
        go_simp
        exact hK.out _ _ (Below.refl _ _) (rfl) trivial
       refine AS.sc rfl rfl rfl ?_ ?_
       ·intro k_ u w_ hk_ hJ hF K hK
        have h36 : u 36 = .pointer (some ⟨b, off + j * 4, none⟩) := AS.facts_get hF 36 (by simp)
        have h26 : u 26 = .bool true := AS.facts_get hF 26 (by simp)
        clear hF
        simp only [h36, h26] at hK ⊢
        clear h36 h26
        obtain ⟨c0, c1, c2, c3⟩ := HY4.out.up (hJ : Below wr.heap.size wr w_) hbW
        go_simp
        exact hK.out _ _ (Below.refl _ _) (rfl) trivial
       refine AS.sc rfl rfl rfl ?_ ?_
       ·intro k_ u w_ hk_ hJ hF K hK
        have h31 : u 31 = .int .i64 x.code := AS.facts_get hF 31 (by simp)
        have h37 : u 37 = .int .i64 y.code := AS.facts_get hF 37 (by simp)
        have h26 : u 26 = .bool true := AS.facts_get hF 26 (by simp)
        clear hF
        simp only [h31, h37, h26] at hK ⊢
        clear h31 h37 h26
        go_simp
        exact hK.out _ _ (Below.refl _ _) (rfl) trivial
       refine AS.sc rfl rfl rfl ?_ ?_
       ·intro k_ u w_ hk_ hJ hF K hK
        have h26 : u 26 = .bool true := AS.facts_get hF 26 (by simp)
        have h38 : u 38 = .bool true := AS.facts_get hF 38 (by simp)
        have h23 : u 23 = .bool false := AS.facts_get hF 23 (by simp)
        clear hF
        simp only [h26, h38, h23] at hK ⊢
        clear h26 h38 h23
        go_simp
        exact hK.out _ _ (Below.refl _ _) (rfl) trivial
       refine AS.sc rfl rfl rfl ?_ ?_
       ·intro k_ u w_ hk_ hJ hF K hK
        have h23 : u 23 = .bool false := AS.facts_get hF 23 (by simp)
        have h39 : u 39 = .bool true := AS.facts_get hF 39 (by simp)
        clear hF
        simp only [h23, h39] at hK ⊢
        clear h23 h39
        go_simp
        exact hK.out _ _ (Below.refl _ _) (rfl) trivial
       refine AS.sc rfl rfl rfl ?_ ?_
       ·intro k_ u w_ hk_ hJ hF K hK
        have h40 : u 40 = .bool true := AS.facts_get hF 40 (by simp)
        clear hF
        simp only [h40] at hK ⊢
        clear h40
        go_simp
        exact hK.out _ _ (Below.refl _ _) (rfl) trivial
       refine AS.sc rfl rfl rfl ?_ ?_
       ·intro k_ u w_ hk_ hJ hF K hK
        have h41 : u 41 = .bool true := AS.facts_get hF 41 (by simp)
        clear hF
        simp only [h41] at hK ⊢
        clear h41
        go_simp
        exact hK.out _ _ (Below.refl _ _) (rfl) trivial
       refine AS.sc rfl rfl rfl ?_ ?_
       ·intro k_ u w_ hk_ hJ hF K hK
        have h41 : u 41 = .bool true := AS.facts_get hF 41 (by simp)
        clear hF
        simp only [h41] at hK ⊢
        clear h41
        go_simp
        exact hK.out _ _ (Below.refl _ _) (rfl) trivial
       refine AS.sc rfl rfl rfl ?_ ?_
       ·intro k_ u w_ hk_ hJ hF K hK
        have h41 : u 41 = .bool true := AS.facts_get hF 41 (by simp)
        clear hF
        simp only [h41] at hK ⊢
        clear h41
        go_simp
        exact hK.out _ _ (Below.refl _ _) (rfl) trivial
       refine AS.sc rfl rfl rfl ?_ ?_
       ·intro k_ u w_ hk_ hJ hF K hK
        have h41 : u 41 = .bool true := AS.facts_get hF 41 (by simp)
        clear hF
        simp only [h41] at hK ⊢
        clear h41
        go_simp
        exact hK.out _ _ (Below.refl _ _) (rfl) trivial
       refine AS.sc rfl rfl rfl ?_ ?_
       ·intro k_ u w_ hk_ hJ hF K hK
        have h41 : u 41 = .bool true := AS.facts_get hF 41 (by simp)
        clear hF
        simp only [h41] at hK ⊢
        clear h41
        go_simp
        exact hK.out _ _ (Below.refl _ _) (rfl) trivial
       refine AS.sc rfl rfl rfl ?_ ?_
       ·intro k_ u w_ hk_ hJ hF K hK
        have h41 : u 41 = .bool true := AS.facts_get hF 41 (by simp)
        clear hF
        simp only [h41] at hK ⊢
        clear h41
        go_simp
        exact hK.out _ _ (Below.refl _ _) (rfl) trivial
       refine AS.sc rfl rfl rfl ?_ ?_
       ·intro k_ u w_ hk_ hJ hF K hK
        have h41 : u 41 = .bool true := AS.facts_get hF 41 (by simp)
        clear hF
        simp only [h41] at hK ⊢
        clear h41
        go_simp
        exact hK.out _ _ (Below.refl _ _) (rfl) trivial
       refine AS.sc rfl rfl rfl ?_ ?_
       ·intro k_ u w_ hk_ hJ hF K hK
        have h41 : u 41 = .bool true := AS.facts_get hF 41 (by simp)
        clear hF
        simp only [h41] at hK ⊢
        clear h41
        go_simp
        exact hK.out _ _ (Below.refl _ _) (rfl) trivial
       refine AS.sc rfl rfl rfl ?_ ?_
       ·intro k_ u w_ hk_ hJ hF K hK
        have h41 : u 41 = .bool true := AS.facts_get hF 41 (by simp)
        clear hF
        simp only [h41] at hK ⊢
        clear h41
        go_simp
        exact hK.out _ _ (Below.refl _ _) (rfl) trivial
       refine AS.sc rfl rfl rfl ?_ ?_
       ·intro k_ u w_ hk_ hJ hF K hK
        have h41 : u 41 = .bool true := AS.facts_get hF 41 (by simp)
        clear hF
        simp only [h41] at hK ⊢
        clear h41
        go_simp
        exact hK.out _ _ (Below.refl _ _) (rfl) trivial
       refine AS.sc rfl rfl rfl ?_ ?_
       ·intro k_ u w_ hk_ hJ hF K hK
        have h41 : u 41 = .bool true := AS.facts_get hF 41 (by simp)
        clear hF
        simp only [h41] at hK ⊢
        clear h41
        go_simp
        exact hK.out _ _ (Below.refl _ _) (rfl) trivial
       refine AS.sc rfl rfl rfl ?_ ?_
       ·intro k_ u w_ hk_ hJ hF K hK
        have h41 : u 41 = .bool true := AS.facts_get hF 41 (by simp)
        have h52 : u 52 = undef := AS.facts_get hF 52 (by simp)
        clear hF
        simp only [h41, h52] at hK ⊢
        clear h41 h52
        go_simp
        exact hK.out _ _ (Below.refl _ _) (rfl) trivial
       exact AS.StepsOk.nil
      ·intro u W9 hJ9 hF
       have h53 : u 53 = .bool true := AS.facts_get hF 53 (by simp [rvFc, AS.temps])
       have hB9 : Below wr.heap.size wr W9 := hJ9
       clear hF hJ9
       simp only [h53]
       clear h53
       go_wp2_with fail
       go_ret
       exact ⟨by rw [E.out]; rfl, hB.trans (hB9.mono hB.size)⟩
  ·obtain rfl : k = n := by omega
   have hltz : ¬ (k : Int) < (k : Int) := by omega
   have E : Hid (rvB L g = true) := Lib.hid (by rw [HV.out]; exact HR.out)
   go_wp2_with fail
   go_ret
   exact ⟨by rw [E.out]; rfl, hB⟩
theorem amtB_is {n : Int} : amtB n = true ↔ -1000000000000 ≤ n ∧ n ≤ 1000000000000 := by unfold amtB; simp
def pick0 (l : List Bal) : List Bal := l.filter fun x => decide (x.amt ≠ 0)
def rowsB (L : List Acc) (f : Int → Int) : List Bal := pick0 (L.map fun a => ⟨a.code, f a.code⟩)
theorem rowsB_succ {L : List Acc} {f : Int → Int} {k : Nat} (hk : k < L.length) : rowsB (L.take (k + 1)) f = if f (L.getD k acc0).code = 0 then rowsB (L.take k) f else rowsB (L.take k) f ++ [⟨(L.getD k acc0).code, f (L.getD k acc0).code⟩] := by
 rw [take_succ_getD (d := acc0) hk]
 unfold rowsB pick0
 rw [List.map_append, List.filter_append]
 generalize L.getD k acc0 = x
 simp only [List.map_cons, List.map_nil]
 split
 ·rename_i h; rw [List.filter_cons_of_neg (by simp [h])]; simp
 ·rename_i h; rw [List.filter_cons_of_pos (by simp [h])]; rfl
theorem rowsB_len {L : List Acc} {f : Int → Int} : (rowsB L f).length ≤ L.length := by
 unfold rowsB pick0
 exact Nat.le_trans (List.length_filter_le _ _) (by simp)
def allTo (p : Nat → Bool) : Nat → Bool
 | 0 => true
 | k + 1 => allTo p k && p k
theorem allTo_is {p : Nat → Bool} : ∀ {k : Nat}, allTo p k = true ↔ ∀ i, i < k → p i = true
 | 0 => ⟨fun _ i hi => by omega, fun _ => rfl⟩
 | k + 1 => by
  rw [allTo, Bool.and_eq_true, allTo_is]
  constructor
  ·rintro ⟨h1, h2⟩ i hi
   rcases Nat.lt_or_ge i k with h3 | h3
   ·exact h1 i h3
   ·obtain rfl : i = k := by omega
    exact h2
  ·intro h; exact ⟨fun i hi => h i (by omega), h k (by omega)⟩
theorem allTo_no {p : Nat → Bool} {k n : Nat} (hk : k < n) (h : p k = false) : allTo p n = false := by
 cases h1 : allTo p n with
 | false => rfl
 | true => rw [allTo_is.1 h1 k hk] at h; cases h
def sumI {α : Type} (l : List α) (f : α → Int) : Int := (l.map f).sum
theorem sumI_nil {α : Type} {f : α → Int} : sumI [] f = 0 := rfl
theorem sumI_cons {α : Type} {a : α} {l : List α} {f : α → Int} : sumI (a :: l) f = f a + sumI l f := by simp [sumI]
theorem sumI_app {α : Type} {l m : List α} {f : α → Int} : sumI (l ++ m) f = sumI l f + sumI m f := by simp [sumI]
theorem sumI_congr {α : Type} {l : List α} {f g : α → Int} (h : ∀ x ∈ l, f x = g x) : sumI l f = sumI l g := by unfold sumI; rw [List.map_congr_left h]
theorem sumI_zero {α : Type} : ∀ {l : List α} {f : α → Int}, (∀ x ∈ l, f x = 0) → sumI l f = 0
 | [], _, _ => rfl
 | a :: l, f, h => by rw [sumI_cons, h a (List.mem_cons_self ..), sumI_zero fun x hx => h x (List.mem_cons_of_mem _ hx)]; rfl
theorem sumI_add {α : Type} : ∀ {l : List α} {f g : α → Int}, sumI l (fun x => f x + g x) = sumI l f + sumI l g
 | [], _, _ => rfl
 | a :: l, f, g => by rw [sumI_cons, sumI_cons, sumI_cons, sumI_add]; omega
theorem sumI_map {α β : Type} {h : α → β} {l : List α} {f : β → Int} : sumI (l.map h) f = sumI l (fun x => f (h x)) := by unfold sumI; rw [List.map_map]; rfl
def ofS (b : List Bal) (c : Int) : Int := sumI b (fun y => if y.acct = c then y.amt else 0)
theorem ofS_app {l m : List Bal} {c : Int} : ofS (l ++ m) c = ofS l c + ofS m c := sumI_app
def insD (d : Int) : List Int → List Int
 | [] => [d]
 | x :: l => if x < d then x :: insD d l else if x = d then x :: l else d :: x :: l
def Asc (l : List Int) : Prop := l.Pairwise (· < ·)
theorem mem_insD {d x : Int} : ∀ {l : List Int}, x ∈ insD d l ↔ x = d ∨ x ∈ l
 | [] => by simp [insD]
 | y :: l => by
  unfold insD
  split
  ·rw [List.mem_cons, mem_insD, List.mem_cons]; exact ⟨fun h => by rcases h with h | h | h <;> simp [h], fun h => by rcases h with h | h | h <;> simp [h]⟩
  ·split
   ·rename_i _ h; subst h; simp
   ·simp
theorem insD_asc {d : Int} : ∀ {l : List Int}, Asc l → Asc (insD d l)
 | [], _ => by simp [insD, Asc]
 | y :: l, h => by
  have h' := h
  unfold Asc at h'
  rw [List.pairwise_cons] at h'
  unfold insD
  split
  ·rename_i hy
   unfold Asc
   rw [List.pairwise_cons]
   exact ⟨fun z hz => by rcases mem_insD.1 hz with rfl | hz; exact hy; exact h'.1 z hz, insD_asc h'.2⟩
  ·split
   ·exact h
   ·rename_i h1 h2
    unfold Asc
    rw [List.pairwise_cons]
    refine ⟨fun z hz => ?_, h⟩
    rcases List.mem_cons.1 hz with rfl | hz
    ·omega
    ·have := h'.1 z hz; omega
theorem Asc.nodup {l : List Int} (h : Asc l) : l.Nodup := List.Pairwise.imp (fun h => by omega) h
theorem Asc.ext {l m : List Int} (h : Asc l) (h2 : Asc m) (hx : ∀ x, x ∈ l ↔ x ∈ m) : l = m :=
 List.Perm.eq_of_pairwise (le := (· < ·)) (fun a b _ _ h1 h2 => by omega) h h2 ((List.perm_ext_iff_of_nodup h.nodup h2.nodup).2 hx)
def keysL (l : List Int) : List Int := l.foldl (fun m d => insD d m) []
theorem keysL_is {l : List Int} : Asc (keysL l) ∧ ∀ x, x ∈ keysL l ↔ x ∈ l := by
 suffices h : ∀ (l m : List Int), Asc m → Asc (l.foldl (fun m d => insD d m) m) ∧ ∀ x, x ∈ l.foldl (fun m d => insD d m) m ↔ x ∈ l ∨ x ∈ m by
  have := h l [] List.Pairwise.nil
  exact ⟨this.1, fun x => by rw [keysL, this.2 x]; simp⟩
 intro l
 induction l with
 | nil => intro m hm; exact ⟨hm, fun x => by simp⟩
 | cons d l ih =>
  intro m hm
  obtain ⟨h1, h2⟩ := ih (insD d m) (insD_asc hm)
  exact ⟨h1, fun x => by rw [List.foldl_cons, h2 x, mem_insD, List.mem_cons]; exact ⟨fun h => by rcases h with h | h | h <;> simp [h], fun h => by rcases h with (h | h) | h <;> simp [h]⟩⟩
theorem keysL_ext {l m : List Int} (h : Asc m) (hx : ∀ x, x ∈ m ↔ x ∈ l) : m = keysL l := h.ext keysL_is.1 (fun x => by rw [keysL_is.2, hx])
theorem sort_asc {l : List Int} (h : l.Nodup) : Asc (l.mergeSort (fun x y => decide (x ≤ y))) := by
 have h1 := List.pairwise_mergeSort (le := fun x y : Int => decide (x ≤ y)) (fun a b c h1 h2 => by simp at *; omega) (fun a b => by simp; omega) l
 have h2 : (l.mergeSort (fun x y => decide (x ≤ y))).Nodup := (List.mergeSort_perm l _).nodup_iff.2 h
 unfold Asc
 rw [List.pairwise_iff_getElem] at h1 ⊢
 intro i j hi hj hij
 have h3 := h1 i j hi hj hij
 have h4 := (List.pairwise_iff_getElem.1 h2) i j hi hj hij
 simp at h3
 omega
theorem keysL_len {l : List Int} : (keysL l).length ≤ l.length := by
 have h := nodup_subset_len (keysL_is (l := l)).1.nodup (m := l) fun x hx => (keysL_is.2 x).1 hx
 exact h
def sumsL (P : List Bal) : List Bal := (keysL (P.map (·.acct))).map fun t => ⟨t, ofS P t⟩
theorem sumsL_len {P : List Bal} : (sumsL P).length ≤ P.length := by
 unfold sumsL
 rw [List.length_map]
 have := keysL_len (l := P.map (·.acct))
 simpa using this
theorem ofS_snoc {P : List Bal} {x : Bal} {t : Int} : ofS (P ++ [x]) t = ofS P t + if x.acct = t then x.amt else 0 := by
 rw [ofS_app]; unfold ofS; rw [sumI_cons, sumI_nil]; omega
theorem ofS_none {P : List Bal} {t : Int} (h : ∀ x ∈ P, x.acct ≠ t) : ofS P t = 0 := sumI_zero fun y hy => if_neg (h y hy)
def amtsB (l : List Bal) : Bool := l.all fun x => amtB x.amt
def lnkB (L c : List Acc) (l : Lnk) : Bool := (fnd L l.frm).isSome && ((fnd c l.tgt).isSome && (decide ((fndA L l.frm).kind = (fndA c l.tgt).kind) && vdB l.since))
def smB (K : List Lnk) (i k : Nat) : Bool := decide ((K.getD k lnk0).frm = (K.getD i lnk0).frm) && decide ((K.getD k lnk0).since = (K.getD i lnk0).since)
def dfB (K : List Lnk) (i : Nat) : Bool := allTo (fun k => !smB K i k) i
def mvB (L : List Acc) (K : List Lnk) (c : List Acc) : Bool := vB c true && (vB L false && (decide (K.length ≤ 400) && (allTo (fun i => lnkB L c (K.getD i lnk0)) K.length && allTo (dfB K) K.length)))
open Go.ChangeShapes Go.WideShapes Go.ChangeAt Go.WideMaps Go.WideElems Go.RowKit
theorem laid_out : laidOutB Tryz.prog = true := by kernel_rfl
theorem trodAll_stays {H : Type} {enc : TypeId × Value → H} {P : Program} (hl : laidOutB P = true) {W W' : World} (hb : Below W.heap.size W W') {sp : Nat → Bool} :
  ∀ {ts : List TypeId} {vs : List Value} {ds : List (DataW H)} {ps : List MemPlace}, (ts.all fun t => P.readableRec t && decide (t < P.types.size)) = true → DataW.TrodAll enc P W 0 (fun _ => true) true ts vs ds ps →
   (∀ x ∈ ps, x.block < W.heap.size) → (∀ x ∈ ps, sp x.block = true) → DataW.TrodAll enc P W' 0 sp true ts vs ds ps
 | [], vs, ds, ps, _, h, _, _ => by
  cases vs <;> cases ds <;> simp [DataW.TrodAll] at h ⊢
  exact h
 | t :: ts, vs, ds, ps, ht, h, hlt, hs => by
  obtain ⟨v, vs', d, ds', p, q, rfl, rfl, rfl, h1, h2⟩ := trodAll_cons h
  simp only [List.all_cons, Bool.and_eq_true, decide_eq_true_eq] at ht
  refine trodAll_cons_mk (WideElems.Trod_stays hl ht.1.1 ht.1.2 h1 (fun x hx => hb.same (hlt x (by simp [hx]))) fun x hx => hs x (by simp [hx])) ?_
  exact trodAll_stays hl hb ht.2 h2 (fun x hx => hlt x (by simp [hx])) fun x hx => hs x (by simp [hx])
open Go.RowKit Go.Maps
abbrev heldE : Value → Option (DataW Value × List MemPlace) := fun v => some (.held v, [])
def MapV (w : World) (b n : Nat) (f : Int → Option Value) : Prop := ∃ D : DataW Value, w.ownsMap Tryz.prog 3 heldE b n D ∧ ∀ c, Maps.has D (.int .i64 c) = (f c).isSome ∧ ∀ z, D.atKey (.int .i64 c) z = (match f c with | some v => .held v | none => z)
section
variable {w w' : World} {b n m : Nat} {f : Int → Option Value}
theorem MapV.blk (h : MapV w b n f) (hk : w'.heap[b]? = w.heap[b]?) : MapV w' b n f := by
 obtain ⟨D, ⟨es, clock, hb, rest⟩, h2⟩ := h
 exact ⟨D, ⟨es, clock, hk.trans hb, rest⟩, h2⟩
theorem MapV.lt (h : MapV w b n f) : b < w.heap.size := by
 obtain ⟨D, h1, _⟩ := h
 exact h1.lt
theorem MapV.up (h : MapV w b n f) (hb : Below w.heap.size w w') : MapV w' b n f := h.blk (hb.block b h.lt)
theorem MapV.made (w : World) : MapV (w.alloc (.map #[] 0)) w.heap.size 0 (fun _ => none) :=
 ⟨.map [], World.ownsMap_made _ _ _ _, fun _ => ⟨rfl, fun _ => rfl⟩⟩
theorem MapV.ext {g : Int → Option Value} (h : MapV w b n f) (hg : ∀ c, g c = f c) : MapV w b n g := by
 obtain ⟨D, h1, h2⟩ := h
 exact ⟨D, h1, fun c => by rw [hg c]; exact h2 c⟩
end
theorem wpList_mapv_look {w : World} {ops : Array Oper} {rest : List Oper} {o : Oper} {a : Act} {Q : Exit → Act → World → Prop} (hg : o.guard = none) (m x : Operand) (t e : TypeId) (hop : o.op = Op.lookup t m x false)
  (ht : Tryz.prog.underlying t = some (.map 3 e)) {zv : Value} (hz : ∀ w : World, (zeroValue e).run Tryz.prog w = .ok zv w)
  (b n : Nat) (f : Int → Option Value) (hm : a.eval m = .map (some b)) (hs : MapV w b n f) (c : Int) (hx : a.eval x = .int .i64 c) (hw : (Lit.int .i64 c).wf = true)
  (hK : wpList Tryz.prog ops Q rest (a.put o.dst ((f c).getD zv)) w) : wpList Tryz.prog ops Q (o :: rest) a w := by
 obtain ⟨D, h1, h3⟩ := hs
 refine wpList_plain hg fun K' hK' => ?_
 obtain ⟨v, ps, hrun, hv⟩ := h1.lookup ti_keyed ht (hz w) (zd := .held zv) (zp := []) rfl (keyOf_int_mk Tryz.underlying3 hw)
 have he : v = (f c).getD zv := by
  rw [(h3 c).2] at hv
  simp only [heldE, Option.some.injEq, Prod.mk.injEq] at hv
  have h4 := hv.1
  cases hf : f c with
  | none => rw [hf] at h4; injection h4
  | some u => rw [hf] at h4; injection h4
 unfold Oper.wp
 simp [execOp, hop, hm, hx, hrun, Result.andThen]
 exact hK' _ _ (he ▸ hK)
theorem wpList_mapv_put {w : World} {ops : Array Oper} {rest : List Oper} {o : Oper} {a : Act} {Q : Exit → Act → World → Prop} (hg : o.guard = none) (m x y : Operand) (t e : TypeId) (hop : o.op = Op.mapUpdate t m x y)
  (ht : Tryz.prog.underlying t = some (.map 3 e))
  (b n : Nat) (f : Int → Option Value) (hm : a.eval m = .map (some b)) (hs : MapV w b n f) (c : Int) (hx : a.eval x = .int .i64 c) (v : Value) (hy : a.eval y = v) (hw : (Lit.int .i64 c).wf = true) (hn : n ≤ 1000000)
  (hK : ∀ w', Hid (MapV w' b (n + 1) (fun x => if x = c then some v else f x)) → Hid (w.grownBy w' (some b)) → wpList Tryz.prog ops Q rest (a.put o.dst undef) w') : wpList Tryz.prog ops Q (o :: rest) a w := by
 obtain ⟨D, h1, h3⟩ := hs
 have h2 := h1.isMap
 refine wpList_mapUpdate_own w hg m x y t hop 3 e ti_keyed ht heldE b n D hm h1 (by unfold maxLen; omega) _ _ _ hx hy (keyOf_int_mk Tryz.underlying3 hw) (.held v) [] rfl ?_
 intro w' h4 h5
 refine hK w' (Lib.hid ⟨_, h4, fun x => ?_⟩) (Lib.hid h5)
 have hkl : ∀ z : Int, WideAt.IsKeyLit (Lit.int .i64 z) := fun z => by simp [WideAt.IsKeyLit]
 by_cases hxc : x = c
 ·subst hxc
  simp only [if_true]
  exact ⟨by rw [has_put_same h2 (hkl _)]; rfl, fun z => atKey_put_same h2 (hkl _) _ _⟩
 ·simp only [if_neg hxc]
  have hne : Lit.int .i64 x ≠ Lit.int .i64 c := fun e => hxc (by injection e)
  refine ⟨by rw [has_put_other hne]; exact (h3 x).1, fun z => ?_⟩
  rw [atKey_put_other hne]
  exact (h3 x).2 z
theorem ts_keyed : Keyed Tryz.prog 163 := Keyed.of_law (deep_law_gate laid_out (by decide +kernel) (by decide +kernel) (by kernel_rfl) (by kernel_rfl))
theorem start_key {a b : Int} (ha : (Lit.int .i64 a).wf = true) (hb : (Lit.int .i64 b).wf = true) : ∃ l, keyOf Tryz.prog 163 (.agg #[.int .i64 a, .int .i64 b]) = some l := by
 have key : ∀ d, Tryz.prog.keyLits (d + 2) 163 [.int .i64 a, .int .i64 b] = some [.int .i64 a, .int .i64 b] := by
  intro d
  have hc : Tryz.prog.cellsOf 163 = 2 := by kernel_rfl
  have hc3 : Tryz.prog.cellsOf 3 = 1 := by kernel_rfl
  simp [Program.keyLits, Tryz.underlying163, Tryz.underlying3, hc, hc3, ha, hb]
 have hf : Value.formed Tryz.prog 163 (.agg #[.int .i64 a, .int .i64 b]) = true := by
  have hc : Tryz.prog.cellsOf 163 = 2 := by kernel_rfl
  simp [Value.formed, Tryz.underlying163, hc]
 have hk : Tryz.prog.keyType 163 = true := by kernel_rfl
 have h1 : 1 ≤ Tryz.prog.types.size := by decide +kernel
 obtain ⟨n, hn⟩ : ∃ n, Tryz.prog.types.size + 1 = n + 2 := ⟨Tryz.prog.types.size - 1, by omega⟩
 refine ⟨.string (keyBytes [.int .i64 a, .int .i64 b]), ?_⟩
 unfold keyOf
 rw [Tryz.underlying163]
 simp only [hk, hf, Bool.and_self, if_true]
 rw [hn]
 show Option.map _ (Tryz.prog.keyLits (n + 2) 163 [.int .i64 a, .int .i64 b]) = _
 rw [key n]; rfl
def SetP (w : World) (b m : Nat) (S : Int → Int → Bool) : Prop := ∃ D : DataW Value, w.ownsMap Tryz.prog 163 heldE b m D ∧ Maps.size D = m ∧ ∀ x y l, keyOf Tryz.prog 163 (.agg #[.int .i64 x, .int .i64 y]) = some l → Maps.has D l = S x y
theorem SetP.lt {w : World} {b m : Nat} {S : Int → Int → Bool} (h : SetP w b m S) : b < w.heap.size := by
 obtain ⟨D, h1, _⟩ := h
 exact h1.lt
theorem SetP.blk {w w' : World} {b m : Nat} {S : Int → Int → Bool} (h : SetP w b m S) (hk : w'.heap[b]? = w.heap[b]?) : SetP w' b m S := by
 obtain ⟨D, ⟨es, clock, hb, rest⟩, h2⟩ := h
 exact ⟨D, ⟨es, clock, hk.trans hb, rest⟩, h2⟩
theorem SetP.up {w w' : World} {b m : Nat} {S : Int → Int → Bool} (h : SetP w b m S) (hb : Below w.heap.size w w') : SetP w' b m S := h.blk (hb.block b h.lt)
theorem SetP.made (w : World) : SetP (w.alloc (.map #[] 0)) w.heap.size 0 (fun _ _ => false) :=
 ⟨.map [], World.ownsMap_made _ _ _ _, rfl, fun _ _ _ _ => rfl⟩
theorem wpList_setp_put {w : World} {ops : Array Oper} {rest : List Oper} {o : Oper} {a : Act} {Q : Exit → Act → World → Prop} (hg : o.guard = none) (m x y : Operand) (t e : TypeId) (hop : o.op = Op.mapUpdate t m x y)
  (ht : Tryz.prog.underlying t = some (.map 163 e))
  (b n : Nat) (S : Int → Int → Bool) (hm : a.eval m = .map (some b)) (hs : SetP w b n S) (c d : Int) (hx : a.eval x = .agg #[.int .i64 c, .int .i64 d]) (v : Value) (hy : a.eval y = v) (hw : (Lit.int .i64 c).wf = true) (hw2 : (Lit.int .i64 d).wf = true) (hn : n ≤ 1000000)
  (hK : ∀ w', Hid (SetP w' b (if S c d = true then n else n + 1) (fun x y => decide (x = c ∧ y = d) || S x y)) → Hid (w.grownBy w' (some b)) → wpList Tryz.prog ops Q rest (a.put o.dst undef) w') : wpList Tryz.prog ops Q (o :: rest) a w := by
 obtain ⟨D, h1, hsz, h3⟩ := hs
 have h2 := h1.isMap
 have ht2 := h1.tidy ts_keyed
 obtain ⟨l, hl⟩ := start_key hw hw2
 refine wpList_mapUpdate_own w hg m x y t hop 163 e ts_keyed ht heldE b n D hm h1 (by unfold maxLen; omega) _ _ _ hx hy hl (.held v) [] rfl ?_
 intro w' h4 h5
 have hsz2 : Maps.size (D.put l (.held v)) = if S c d = true then n else n + 1 := by
  rw [size_put ht2, h3 c d l hl, hsz]
 refine hK w' (Lib.hid ⟨_, ?_, hsz2, fun x y l2 hl2 => ?_⟩) (Lib.hid h5)
 ·obtain ⟨es, clock, hb, F, hes, hD⟩ := h4
  refine ⟨es, clock, hb, F, ?_, hD⟩
  have : es.size = Maps.size (D.put l (.held v)) := by rw [hD, size_eq, length_sorted]; simp
  omega
 ·by_cases hxc : x = c ∧ y = d
  ·obtain ⟨rfl, rfl⟩ := hxc
   rw [hl] at hl2
   obtain rfl := Option.some.inj hl2
   rw [has_put_same h2 (ts_keyed.key hl)]
   simp
  ·have hne : l2 ≠ l := by
    rintro rfl
    have := ts_keyed.inj hl2 hl
    simp at this
    exact hxc this
   rw [has_put_other hne, h3 x y l2 hl2]
   show S x y = (decide (x = c ∧ y = d) || S x y)
   rw [decide_eq_false hxc]; rfl
open Go.RowKit
theorem lpB_eq (y : Int) : lpB y = ((y % 4 == 0) && ((y % 100 != 0) || (y % 400 == 0))) := by
 rw [Bool.eq_iff_iff, lpB_iff]; simp
theorem isLeap_any (y : Int) (w : World) (h0 : 0 ≤ y) : Calls Tryz.prog 102 #[.int .i64 y] w fun e w' => e = .returned (.bool (lpB y)) ∧ w = w' := by
 rw [lpB_eq]
 cases h1 : (y % 4 == 0)
 ·go_enter Tryz.func102, Tryz.ntmps102
  go_wp2
  go_ret
  exact ⟨rfl, rfl⟩
 ·cases h2 : (y % 100 == 0)
  ·have h2' : (y % 100 != 0) = true := by rw [bne, h2]; rfl
   rw [h2']
   go_enter Tryz.func102, Tryz.ntmps102
   go_wp2
   go_ret
   exact ⟨rfl, rfl⟩
  ·have h2' : (y % 100 != 0) = false := by rw [bne, h2]; rfl
   rw [h2']
   go_enter Tryz.func102, Tryz.ntmps102
   go_wp2
   go_ret
   exact ⟨by simp, rfl⟩
theorem rleap_any (y : Int) (w : World) (h0 : 0 ≤ y) : Calls Tryz.prog 67 #[.int .i64 y] w fun e w' => e = .returned (.bool (lpB y)) ∧ w = w' := by
 rw [lpB_eq]
 cases h1 : (y % 4 == 0)
 ·go_enter Tryz.func67, Tryz.ntmps67
  go_wp2
  go_ret
  exact ⟨rfl, rfl⟩
 ·cases h2 : (y % 100 == 0)
  ·have h2' : (y % 100 != 0) = true := by rw [bne, h2]; rfl
   rw [h2']
   go_enter Tryz.func67, Tryz.ntmps67
   go_wp2
   go_ret
   exact ⟨rfl, rfl⟩
  ·have h2' : (y % 100 != 0) = false := by rw [bne, h2]; rfl
   rw [h2']
   go_enter Tryz.func67, Tryz.ntmps67
   go_wp2
   go_ret
   exact ⟨by simp, rfl⟩
theorem vd_any (n : Int) (w : World) : Calls Tryz.prog 129 #[.int .i64 n] w fun e w' => e = .returned (.bool (vdB n)) ∧ w = w' := by
 unfold vdB
 by_cases h1 : (-25567 : Int) ≤ n
 ·rw [decide_eq_true h1]
  go_enter Tryz.func129, Tryz.ntmps129
  go_wp2
  go_ret
  exact ⟨rfl, rfl⟩
 ·rw [decide_eq_false h1]
  have h3 : decide ((-25567 : Int) ≤ n) = false := decide_eq_false h1
  clear h1
  go_enter Tryz.func129, Tryz.ntmps129
  go_wp2
  go_ret
  exact ⟨rfl, rfl⟩
theorem rvd_any (n : Int) (w : World) : Calls Tryz.prog 65 #[.int .i64 n] w fun e w' => e = .returned (.bool (vdB n)) ∧ w = w' := by
 unfold vdB
 by_cases h1 : (-25567 : Int) ≤ n
 ·rw [decide_eq_true h1]
  go_enter Tryz.func65, Tryz.ntmps65
  go_wp2
  go_ret
  exact ⟨rfl, rfl⟩
 ·rw [decide_eq_false h1]
  have h3 : decide ((-25567 : Int) ≤ n) = false := decide_eq_false h1
  clear h1
  go_enter Tryz.func65, Tryz.ntmps65
  go_wp2
  go_ret
  exact ⟨rfl, rfl⟩
theorem leapDays_any (y : Int) (w : World) (h0 : 1 ≤ y) (h1 : y ≤ 1000000) : Calls Tryz.prog 124 #[.int .i64 y] w fun e w' => e = .returned (.int .i64 (lpN y)) ∧ w = w' := by
 go_enter Tryz.func124, Tryz.ntmps124
 go_wp2
 go_ret
 exact ⟨rfl, rfl⟩
theorem newYear_any (y : Int) (w : World) (h0 : 1900 ≤ y) (h1 : y ≤ 2201) : Calls Tryz.prog 111 #[.int .i64 y] w fun e w' => e = .returned (.int .i64 (nyr y)) ∧ w = w' := by
 have hb := lpN_bd h0 h1
 have hc := lpN_bd (y := 1900) (by omega) (by omega)
 have he : nyr y = -25567 + 365 * (y - 1900) + lpN y - lpN 1900 := rfl
 rw [he]
 clear he
 go_enter Tryz.func111, Tryz.ntmps111
 go_wp2_with (go_at_call 124; refine (leapDays_any _ _ (by omega) (by omega)).mono ?_; rintro e w' ⟨rfl, rfl⟩)
 go_ret
 exact ⟨rfl, rfl⟩
open Go.RowKit Go.Maps
set_option maxRecDepth 20000 in
set_option maxHeartbeats 3200000 in
theorem clnk_any (l : Lnk) (A C : Option Addr) (cp d : Nat) (L c : List Acc) (w : World) (hz : AccAt w A L) (hy : AccAt w C c) (hl : L.length ≤ 1000) (hm : c.length ≤ 1000) :
  Calls Tryz.prog 121 #[lnkV l, .slice A L.length cp, .slice C c.length d] w fun e w' => e = .returned (.bool (lnkB L c l)) ∧ Below w.heap.size w w' := by
 have hB := below_alloc_new (w := w) (.cells #[.int .i64 l.frm, .int .i64 l.tgt, .int .i64 l.since] 104)
 have HL := Lib.hid (lb_new w 104 l)
 have HZ := Lib.hid (hz.up hB)
 have HY := Lib.hid (hy.up hB)
 have hf := fun w h => cfind_any A cp L l.frm w h hl
 have hg := fun w h => cfind_any C d c l.tgt w h hm
 have hv := fun w => vd_any l.since w
 have hE : lnkB L c l = ((fnd L l.frm).isSome && ((fnd c l.tgt).isSome && (decide ((fndA L l.frm).kind = (fndA c l.tgt).kind) && vdB l.since))) := rfl
 generalize lnkB L c l = r at *
 generalize (fnd L l.frm).isSome = q1 at *
 generalize (fnd c l.tgt).isSome = q2 at *
 generalize fndA L l.frm = fa at *
 generalize fndA c l.tgt = fb at *
 generalize vdB l.since = q4 at *
 obtain ⟨q3, hq3⟩ : ∃ q3, decide (fa.kind = fb.kind) = q3 := ⟨_, rfl⟩
 have e3 : (fa.kind == fb.kind) = q3 := by rw [← hq3, Bool.eq_iff_iff]; simp
 rw [hq3] at hE
 generalize L.length = n at *
 generalize c.length = m at *
 obtain ⟨⟨v0, v1, v2⟩, vlt⟩ := HL.out
 simp only [Nat.zero_add] at v1 v2
 have HF := Lib.hid hf
 have HG := Lib.hid hg
 have HV := Lib.hid hv
 have HE := Lib.hid hE
 clear hf hg hv hE hq3 hz hy
 cases q1 <;> cases q2 <;> cases q3
 all_goals
  go_enter Tryz.func121, Tryz.ntmps121
  go_wp2_with (first
   | (go_at_call 90; first
    | ((with_reducible refine (HF.out _ HZ.out).mono ?_); rintro e w2 ⟨rfl, hb⟩; have HA := Lib.hid (ab_new w2 69 fa); replace HL := Lib.hid ((HL.out.up hb).up (below_alloc_new (.cells #[.int .i64 fa.code, .int .i64 fa.kind, .int .i64 fa.basis, .int .i64 fa.par] 69))); replace HY := Lib.hid ((HY.out.up hb).up (below_alloc_new (.cells #[.int .i64 fa.code, .int .i64 fa.kind, .int .i64 fa.basis, .int .i64 fa.par] 69))); replace hB := below_new (below_more hB hb) (.cells #[.int .i64 fa.code, .int .i64 fa.kind, .int .i64 fa.basis, .int .i64 fa.par] 69); clear hb v0 v1 v2 vlt; obtain ⟨⟨v0, v1, v2⟩, vlt⟩ := HL.out; simp only [Nat.zero_add] at v1 v2)
    | ((with_reducible refine (HG.out _ HY.out).mono ?_); rintro e w3 ⟨rfl, hb⟩; have HA3 := Lib.hid (ab_new w3 69 fb); replace HA := Lib.hid ((HA.out.up hb).up (below_alloc_new (.cells #[.int .i64 fb.code, .int .i64 fb.kind, .int .i64 fb.basis, .int .i64 fb.par] 69))); replace HL := Lib.hid ((HL.out.up hb).up (below_alloc_new (.cells #[.int .i64 fb.code, .int .i64 fb.kind, .int .i64 fb.basis, .int .i64 fb.par] 69))); replace hB := below_new (below_more hB hb) (.cells #[.int .i64 fb.code, .int .i64 fb.kind, .int .i64 fb.basis, .int .i64 fb.par] 69); clear hb v0 v1 v2 vlt; obtain ⟨⟨v0, v1, v2⟩, vlt⟩ := HL.out; simp only [Nat.zero_add] at v1 v2; obtain ⟨⟨x0, x1, x2, x3⟩, xlt, -⟩ := HA.out; obtain ⟨⟨y0, y1, y2, y3⟩, ylt, -⟩ := HA3.out; simp only [Nat.zero_add] at x1 x2 x3 y1 y2 y3))
   | (go_at_call 129; refine (HV.out _).mono ?_; rintro e w4 ⟨rfl, rfl⟩))
  go_ret
  exact ⟨by rw [HE.out]; rfl, hB⟩
theorem wpList_setp_len {w : World} {ops : Array Oper} {rest : List Oper} {o : Oper} {a : Act} {Q : Exit → Act → World → Prop} (hg : o.guard = none) (m : Operand) (t e : TypeId) (hop : o.op = Op.call { callee := Callee.builtin Builtin.len, args := #[m], argTypes := #[t] })
  (ht : Tryz.prog.underlying t = some (.map 163 e)) (b n : Nat) (S : Int → Int → Bool) (hm : a.eval m = .map (some b)) (hs : SetP w b n S)
  (hK : wpList Tryz.prog ops Q rest (a.put o.dst (.int .i64 (n : Int))) w) : wpList Tryz.prog ops Q (o :: rest) a w := by
 obtain ⟨D, h1, hsz, h3⟩ := hs
 refine wpList_len_own w hg m t hop 163 e ht heldE b n D hm h1 ?_
 rw [hsz]; exact hK
structure DI (K : List Lnk) (k m : Nat) (S : Int → Int → Bool) : Prop where
 mem : ∀ x y, S x y = true ↔ ∃ i, i < k ∧ (K.getD i lnk0).frm = x ∧ (K.getD i lnk0).since = y
 le : m ≤ k
 iff : m = k ↔ allTo (dfB K) k = true
theorem DI.start {K : List Lnk} : DI K 0 0 (fun _ _ => false) := ⟨fun x y => by simp, Nat.le_refl _, by simp [allTo]⟩
theorem dfB_is {K : List Lnk} {i : Nat} : dfB K i = true ↔ ∀ k, k < i → ¬ ((K.getD k lnk0).frm = (K.getD i lnk0).frm ∧ (K.getD k lnk0).since = (K.getD i lnk0).since) := by
 unfold dfB
 rw [allTo_is]
 have e : ∀ k, (!smB K i k) = true ↔ ¬ ((K.getD k lnk0).frm = (K.getD i lnk0).frm ∧ (K.getD k lnk0).since = (K.getD i lnk0).since) := by
  intro k
  unfold smB
  rw [Bool.not_eq_true', Bool.and_eq_false_iff, decide_eq_false_iff_not, decide_eq_false_iff_not]
  exact ⟨fun h h2 => h.elim (fun h3 => h3 h2.1) (fun h3 => h3 h2.2), fun h => by
   by_cases h1 : (K.getD k lnk0).frm = (K.getD i lnk0).frm
   ·exact .inr fun h2 => h ⟨h1, h2⟩
   ·exact .inl h1⟩
 exact ⟨fun h k hk => (e k).1 (h k hk), fun h k hk => (e k).2 (h k hk)⟩
theorem DI.step {K : List Lnk} {k m : Nat} {S : Int → Int → Bool} {x : Lnk} (h : DI K k m S) (hx : K.getD k lnk0 = x) :
  DI K (k + 1) (if S x.frm x.since = true then m else m + 1) (fun a b => decide (a = x.frm ∧ b = x.since) || S a b) := by
 have hd : dfB K k = !S x.frm x.since := by
  cases hS : S x.frm x.since with
  | true =>
   obtain ⟨i, hi, h1, h2⟩ := (h.mem _ _).1 hS
   cases hq : dfB K k with
   | false => rfl
   | true => exact absurd ⟨by rw [hx]; exact h1, by rw [hx]; exact h2⟩ (dfB_is.1 hq i hi)
  | false =>
   show dfB K k = true
   rw [dfB_is]
   rintro i hi ⟨h1, h2⟩
   have := (h.mem x.frm x.since).2 ⟨i, hi, by rw [h1, hx], by rw [h2, hx]⟩
   rw [hS] at this; cases this
 refine ⟨fun a b => ?_, ?_, ?_⟩
 ·simp only [Bool.or_eq_true, decide_eq_true_eq, h.mem]
  constructor
  ·rintro (⟨rfl, rfl⟩ | ⟨i, hi, h1, h2⟩)
   ·exact ⟨k, by omega, by rw [hx], by rw [hx]⟩
   ·exact ⟨i, by omega, h1, h2⟩
  ·rintro ⟨i, hi, h1, h2⟩
   rcases Nat.lt_or_ge i k with h3 | h3
   ·exact .inr ⟨i, h3, h1, h2⟩
   ·obtain rfl : i = k := by omega
    rw [hx] at h1 h2
    exact .inl ⟨h1.symm, h2.symm⟩
 ·have := h.le; split <;> omega
 ·have h1 := h.le
  have h2 := h.iff
  simp only [allTo, Bool.and_eq_true, hd]
  cases hS : S x.frm x.since
  ·simp only [Bool.not_false, and_true, if_neg (show ¬ (false = true) by simp)]
   rw [← h2]; omega
  ·simp only [Bool.not_true, if_true]
   constructor
   ·intro h3; omega
   ·rintro ⟨_, h3⟩; cases h3
structure WfL (l : Lnk) : Prop where
 frm : (Lit.int .i64 l.frm).wf = true
 tgt : (Lit.int .i64 l.tgt).wf = true
 since : (Lit.int .i64 l.since).wf = true
set_option maxRecDepth 20000 in
set_option maxHeartbeats 3200000 in
theorem cdist_any (A : Option Addr) (cp : Nat) (K : List Lnk) (w : World) (hz : LnkAt w A K) (hl : K.length ≤ 1000) (hw : ∀ l ∈ K, WfL l) :
  Calls Tryz.prog 122 #[.slice A K.length cp] w fun e w' => e = .returned (.bool (allTo (dfB K) K.length)) ∧ Below w.heap.size w w' := by
 have hB := below_alloc_new (w := w) (.map #[] 0)
 have hM := SetP.made w
 obtain ⟨q, hq⟩ : ∃ q, allTo (dfB K) K.length = q := ⟨_, rfl⟩
 rw [hq]
 obtain ⟨n, hn⟩ : ∃ n, K.length = n := ⟨_, rfl⟩
 obtain ⟨s0, hs0⟩ : ∃ s0, w.heap.size = s0 := ⟨_, rfl⟩
 rw [hn] at hl hq ⊢
 rw [hs0] at hB hM ⊢
 have HN := Lib.hid hn
 have HZ := Lib.hid hz
 have HW := Lib.hid hw
 have HS0 := Lib.hid hs0
 have HM := Lib.hid hM
 have HQ := Lib.hid hq
 have hmm := @run_makeMap Tryz.prog
 clear hn hz hw hM hq
 go_enter Tryz.func122, Tryz.ntmps122
 go_wp2_with fail
 clear hs0
 go_loopg [9] n (fun kx s9 wr => ∃ (k m : Nat) (S : Int → Int → Bool), s9 = .int .i64 k ∧ k ≤ n ∧ n - k ≤ kx ∧ Hid (DI K k m S) ∧ Hid (SetP wr s0 m S) ∧ Below s0 w wr)
 case atStart => exact ⟨0, 0, _, rfl, by omega, by omega, Lib.hid DI.start, HM, hB⟩
 case round =>
  clear hB HM
  obtain ⟨k, m, S, rfl, hk, hkx, HD, HM, hB⟩ := hrel
  by_cases hlt : k < n
  ·have hltz : (k : Int) < (n : Int) := by omega
   have hsz : s0 ≤ wr.heap.size := by have := hB.size; have := HS0.out; omega
   obtain ⟨b, off, rfl, hbw, hcs⟩ := HZ.out (by rw [HN.out]; omega)
   obtain ⟨c0, c1, c2⟩ := (hcs k (by rw [HN.out]; exact hlt)).up hB (by have := HS0.out; omega)
   obtain ⟨x, hx⟩ : ∃ x, K.getD k lnk0 = x := ⟨_, rfl⟩
   rw [hx] at c0 c1 c2
   have HWX := Lib.hid (HW.out x (by rw [← hx]; exact getD_mem_acc (by rw [HN.out]; exact hlt)))
   have HDS := Lib.hid (HD.out.step hx)
   have hm1 : m ≤ 1000 := by have := HD.out.le; omega
   have HM1 := Lib.hid (HM.out.up (below_alloc_new (.cells #[.int .i64 x.frm, .int .i64 x.tgt, .int .i64 x.since] 104)))
   have hB1 : Below s0 w (wr.alloc (.cells #[.int .i64 x.frm, .int .i64 x.tgt, .int .i64 x.since] 104)) := hB.alloc hsz _
   have hsm := HM.out.lt
   clear hx hcs
   go_wp2_with (at_mapUpdate; refine wpList_setp_put rfl _ _ _ _ 4 rfl Tryz.underlying161 s0 m S rfl HM1.out x.frm x.since rfl _ rfl HWX.out.frm HWX.out.since (by omega) ?_; intro w2 hm2 hg2; have hb2 := grown_below hB1 hg2.out (Nat.le_refl _) (by simp; omega); clear hg2)
   go_roundg (n - (k + 1))
   case measure => omega
   case rel => exact ⟨k + 1, _, _, by go_num, by omega, by omega, HDS, hm2, hb2⟩
  ·obtain rfl : k = n := by omega
   have hltz : ¬ (k : Int) < (k : Int) := by omega
   have e9 : ((m : Int) == (k : Int)) = q := by
    rw [← HQ.out]
    have h1 := HD.out.iff
    cases h2 : allTo (dfB K) k with
    | true => rw [h2] at h1; have := h1.2 rfl; subst this; simp
    | false => rw [h2] at h1; simp; intro h3; have := h1.1 (by omega); cases this
   go_wp2_with (at_len; refine wpList_setp_len rfl _ _ 4 rfl Tryz.underlying161 s0 m S rfl HM.out ?_)
   go_ret
   exact ⟨rfl, hB⟩
def WfC (L : List Acc) : Prop := ∀ a ∈ L, (Lit.int .i64 a.code).wf = true
section
variable {w wb w2 w4 : World} {base mb : Nat} {GA GB : Int → Value} {L : List Acc} {K : List Lnk} {v : Value}
end
open Go.RowKit
abbrev sumV (g r : Int) : Value := .agg #[.int .i64 g, .int .i64 r]
structure SumZ (g r z : Int) : Prop where
 eq : g * 1000000000000 + r = z
 lo : -1000000000000 < r
 hi : r < 1000000000000
theorem two_at (w : World) (a b : Int) (t : TypeId) : (w.alloc (.cells #[.int .i64 a, .int .i64 b] t)).cell? ⟨w.heap.size, 0, none⟩ = some (.int .i64 a) ∧ (w.alloc (.cells #[.int .i64 a, .int .i64 b] t)).cell? ⟨w.heap.size, 1, none⟩ = some (.int .i64 b) := by
 constructor <;> (simp only [World.cell?]; rw [heap_alloc_new]; rfl)
theorem two_fz (w : World) (a b : Int) (t : TypeId) (i : Nat) : (w.alloc (.cells #[.int .i64 a, .int .i64 b] t)).frozen? ⟨w.heap.size, i, none⟩ = false := by
 simp only [World.frozen?]; rw [heap_alloc_new]; simp
def plusG (g r a : Int) : Int := g + (r + a).tdiv 1000000000000
def plusR (r a : Int) : Int := (r + a).tmod 1000000000000
theorem plus_z {g r z a : Int} (h : SumZ g r z) : SumZ (plusG g r a) (plusR r a) (z + a) := by
 have h1 := Int.mul_tdiv_add_tmod (r + a) 1000000000000
 have h2 : (r + a).tmod 1000000000000 < 1000000000000 := Int.tmod_lt_of_pos _ (by omega)
 have h3 : -1000000000000 < (r + a).tmod 1000000000000 := by
  have := Int.tmod_lt_of_pos (-(r + a)) (show (0 : Int) < 1000000000000 by omega)
  rw [Int.neg_tmod] at this; omega
 obtain ⟨he, _, _⟩ := h
 unfold plusG plusR
 exact ⟨by rw [Int.add_mul]; omega, h3, h2⟩
theorem plus_bd {g r a : Int} (hr : -1000000000000 < r ∧ r < 1000000000000) (ha : -1000000000000 ≤ a ∧ a ≤ 1000000000000) : g - 2 ≤ plusG g r a ∧ plusG g r a ≤ g + 2 := by
 have h1 := Int.mul_tdiv_add_tmod (r + a) 1000000000000
 have h2 : (r + a).tmod 1000000000000 < 1000000000000 := Int.tmod_lt_of_pos _ (by omega)
 have h3 : -1000000000000 < (r + a).tmod 1000000000000 := by
  have := Int.tmod_lt_of_pos (-(r + a)) (show (0 : Int) < 1000000000000 by omega)
  rw [Int.neg_tmod] at this; omega
 unfold plusG
 generalize (r + a).tdiv 1000000000000 = q at *
 generalize (r + a).tmod 1000000000000 = p at *
 omega
end Go.Proofs.YtompehjecamdiaaGreat
namespace Go.Proofs
open Go.Shelf
def Tryz.keys39_ren : Go.Shelf.Ren := ⟨fun | 7 => 39 | 10 => 60 | n => n, fun | 23 => 59 | 26 => 3 | 3 => 63 | 28 => 87 | 0 => 0 | 27 => 86 | 33 => 70 | 4 => 4 | n => n, fun | n => n⟩
theorem Tryz.keys39 : Go.Proofs.SlLaysZI.n7 Tryz.prog Tryz.keys39_ren := {
 mixed := by kernel_rfl
 f7 := ⟨Tryz.f39.name, by decide, Tryz.func39.trans (congrArg some (by kernel_rfl))⟩
 f10 := ⟨Tryz.f60.name, by decide, Tryz.func60.trans (congrArg some (by kernel_rfl))⟩
 t0 := Tryz.underlying0
 a0 := Tryz.isAgg0
 z0 := Tryz.sizeOf0
 v0 := Tryz.zeroValue0
 t4 := Tryz.underlying4
 a4 := Tryz.isAgg4
 z4 := Tryz.sizeOf4
 v4 := Tryz.zeroValue4
 t23 := Tryz.underlying59
 a23 := Tryz.isAgg59
 z23 := Tryz.sizeOf59
 v23 := Tryz.zeroValue59
 t26 := Tryz.underlying3
 a26 := Tryz.isAgg3
 z26 := Tryz.sizeOf3
 v26 := Tryz.zeroValue3
 t27 := Tryz.underlying86
 a27 := Tryz.isAgg86
 z27 := Tryz.sizeOf86
 v27 := Tryz.zeroValue86
 t28 := Tryz.underlying87
 a28 := Tryz.isAgg87
 z28 := Tryz.sizeOf87
 v28 := Tryz.zeroValue87
 t33 := Tryz.underlying70
 a33 := Tryz.isAgg70
 z33 := Tryz.sizeOf70
 v33 := Tryz.zeroValue70 }
def Tryz.sorted38_ren : Go.Shelf.Ren := ⟨fun | 6 => 38 | 8 => 58 | 9 => 59 | 11 => 77 | 13 => 79 | 12 => 78 | 23 => 100 | 24 => 101 | 14 => 91 | 15 => 92 | 16 => 93 | 17 => 94 | 18 => 95 | 19 => 96 | 20 => 97 | 21 => 98 | 22 => 99 | 25 => 112 | 26 => 113 | 27 => 114 | 28 => 115 | 29 => 116 | 30 => 117 | 31 => 125 | n => n, fun | 26 => 3 | 28 => 87 | 24 => 84 | 0 => 0 | 3 => 3 | 37 => 121 | 48 => 141 | 50 => 143 | 4 => 4 | 40 => 134 | 39 => 133 | 45 => 73 | 5 => 5 | 9 => 9 | 51 => 145 | 55 => 149 | 57 => 157 | 58 => 123 | 33 => 70 | n => n, fun | n => n⟩
theorem Tryz.sorted38 : Go.Proofs.SlLaysZI.n6 Tryz.prog Tryz.sorted38_ren := {
 mixed := by kernel_rfl
 f6 := ⟨Tryz.f38.name, by decide, Tryz.func38.trans (congrArg some (by kernel_rfl))⟩
 f8 := ⟨Tryz.f58.name, by decide, Tryz.func58.trans (congrArg some (by kernel_rfl))⟩
 f11 := ⟨Tryz.f77.name, by decide, Tryz.func77.trans (congrArg some (by kernel_rfl))⟩
 t0 := Tryz.underlying0
 a0 := Tryz.isAgg0
 z0 := Tryz.sizeOf0
 v0 := Tryz.zeroValue0
 t24 := Tryz.underlying84
 a24 := Tryz.isAgg84
 z24 := Tryz.sizeOf84
 v24 := Tryz.zeroValue84
 t26 := Tryz.underlying3
 a26 := Tryz.isAgg3
 z26 := Tryz.sizeOf3
 v26 := Tryz.zeroValue3
 t28 := Tryz.underlying87
 a28 := Tryz.isAgg87
 z28 := Tryz.sizeOf87
 v28 := Tryz.zeroValue87
 i26 := by kernel_rfl }
def Tryz.sort59_ren : Go.Shelf.Ren := ⟨fun | 5 => 59 | 8 => 79 | 7 => 78 | 19 => 100 | 20 => 101 | 10 => 91 | 11 => 92 | 12 => 93 | 13 => 94 | 14 => 95 | 15 => 96 | 16 => 97 | 17 => 98 | 18 => 99 | 30 => 112 | 31 => 113 | 32 => 114 | 33 => 115 | 34 => 116 | 35 => 117 | 40 => 125 | n => n, fun | 23 => 84 | 25 => 3 | 3 => 3 | 32 => 121 | 22 => 84 | 0 => 0 | 44 => 141 | 46 => 143 | 4 => 4 | 36 => 134 | 35 => 133 | 41 => 73 | 5 => 5 | 9 => 9 | 53 => 145 | 57 => 149 | 63 => 157 | 64 => 123 | n => n, fun | n => n⟩
theorem Tryz.sort59 : Go.Proofs.SlLaysM.n5 Tryz.prog Tryz.sort59_ren := {
 mixed := by kernel_rfl
 f5 := ⟨Tryz.f59.name, by decide, Tryz.func59.trans (congrArg some (by kernel_rfl))⟩
 f7 := ⟨Tryz.f78.name, by decide, Tryz.func78.trans (congrArg some (by kernel_rfl))⟩
 f8 := Tryz.func79.trans (congrArg some (by kernel_rfl))
 f10 := ⟨Tryz.f91.name, by decide, Tryz.func91.trans (congrArg some (by kernel_rfl))⟩
 f11 := ⟨Tryz.f92.name, by decide, Tryz.func92.trans (congrArg some (by kernel_rfl))⟩
 f12 := ⟨Tryz.f93.name, by decide, Tryz.func93.trans (congrArg some (by kernel_rfl))⟩
 f13 := ⟨Tryz.f94.name, by decide, Tryz.func94.trans (congrArg some (by kernel_rfl))⟩
 f14 := ⟨Tryz.f95.name, by decide, Tryz.func95.trans (congrArg some (by kernel_rfl))⟩
 f15 := ⟨Tryz.f96.name, by decide, Tryz.func96.trans (congrArg some (by kernel_rfl))⟩
 f16 := ⟨Tryz.f97.name, by decide, Tryz.func97.trans (congrArg some (by kernel_rfl))⟩
 f17 := ⟨Tryz.f98.name, by decide, Tryz.func98.trans (congrArg some (by kernel_rfl))⟩
 f18 := ⟨Tryz.f99.name, by decide, Tryz.func99.trans (congrArg some (by kernel_rfl))⟩
 f19 := Tryz.func100.trans (congrArg some (by kernel_rfl))
 f20 := Tryz.func101.trans (congrArg some (by kernel_rfl))
 f30 := ⟨Tryz.f112.name, by decide, Tryz.func112.trans (congrArg some (by kernel_rfl))⟩
 f31 := Tryz.func113.trans (congrArg some (by kernel_rfl))
 f32 := Tryz.func114.trans (congrArg some (by kernel_rfl))
 f33 := ⟨Tryz.f115.name, by decide, Tryz.func115.trans (congrArg some (by kernel_rfl))⟩
 f34 := ⟨Tryz.f116.name, by decide, Tryz.func116.trans (congrArg some (by kernel_rfl))⟩
 f35 := ⟨Tryz.f117.name, by decide, Tryz.func117.trans (congrArg some (by kernel_rfl))⟩
 f40 := ⟨Tryz.f125.name, by decide, Tryz.func125.trans (congrArg some (by kernel_rfl))⟩
 t0 := Tryz.underlying0
 a0 := Tryz.isAgg0
 z0 := Tryz.sizeOf0
 v0 := Tryz.zeroValue0
 t3 := Tryz.underlying3
 a3 := Tryz.isAgg3
 z3 := Tryz.sizeOf3
 v3 := Tryz.zeroValue3
 t4 := Tryz.underlying4
 a4 := Tryz.isAgg4
 z4 := Tryz.sizeOf4
 v4 := Tryz.zeroValue4
 t5 := Tryz.underlying5
 a5 := Tryz.isAgg5
 z5 := Tryz.sizeOf5
 v5 := Tryz.zeroValue5
 t9 := Tryz.underlying9
 a9 := Tryz.isAgg9
 z9 := Tryz.sizeOf9
 v9 := Tryz.zeroValue9
 t22 := Tryz.underlying84
 a22 := Tryz.isAgg84
 z22 := Tryz.sizeOf84
 v22 := Tryz.zeroValue84
 t23 := Tryz.underlying84
 a23 := Tryz.isAgg84
 z23 := Tryz.sizeOf84
 v23 := Tryz.zeroValue84
 t25 := Tryz.underlying3
 a25 := Tryz.isAgg3
 z25 := Tryz.sizeOf3
 v25 := Tryz.zeroValue3
 t32 := Tryz.underlying121
 a32 := Tryz.isAgg121
 z32 := Tryz.sizeOf121
 v32 := Tryz.zeroValue121
 t35 := Tryz.underlying133
 a35 := Tryz.isAgg133
 z35 := Tryz.sizeOf133
 v35 := Tryz.zeroValue133
 t36 := Tryz.underlying134
 a36 := Tryz.isAgg134
 z36 := Tryz.sizeOf134
 v36 := Tryz.zeroValue134
 t41 := Tryz.underlying73
 a41 := Tryz.isAgg73
 z41 := Tryz.sizeOf73
 v41 := Tryz.zeroValue73
 t44 := Tryz.underlying141
 a44 := Tryz.isAgg141
 z44 := Tryz.sizeOf141
 v44 := Tryz.zeroValue141
 t46 := Tryz.underlying143
 a46 := Tryz.isAgg143
 z46 := Tryz.sizeOf143
 v46 := Tryz.zeroValue143
 t53 := Tryz.underlying145
 a53 := Tryz.isAgg145
 z53 := Tryz.sizeOf145
 v53 := Tryz.zeroValue145
 t57 := Tryz.underlying149
 a57 := Tryz.isAgg149
 z57 := Tryz.sizeOf149
 v57 := Tryz.zeroValue149
 t63 := Tryz.underlying157
 a63 := Tryz.isAgg157
 z63 := Tryz.sizeOf157
 v63 := Tryz.zeroValue157
 t64 := Tryz.underlying123
 a64 := Tryz.isAgg123
 z64 := Tryz.sizeOf123
 v64 := Tryz.zeroValue123 }
end Go.Proofs
