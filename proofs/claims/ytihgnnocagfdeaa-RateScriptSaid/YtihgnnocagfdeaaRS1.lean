/- Contracts of the functions that the statements reach, part 1: what was proved of each, callees first. -/
import Derived.Test.YtihgnnocagfdeaaProg
import Derived.WalkKit
import Derived.WalkSpells
import Derived.Lib.Hide
import Derived.Deep.QuietTactic
import Derived.BigQuiet
import Derived.Deep.Draws
import Derived.Laws.Rows
import Derived.Laws.CopyOwn
import Derived.Deep.OwnRows
import Derived.Outline
import Derived.Laws.StructEq
import Derived.Deep.LoopGhost
import Derived.Deep.CutRange
import Derived.Deep.RegionHeld
import Derived.Below
import Derived.StillTail
import Derived.Sort.LotA
import Derived.Handed
import Derived.ProofKit
import Derived.ChangeSlices
import Derived.OpenShut
import Derived.Carry
import Derived.ChangeSame
import Derived.Deep.MidRow
import Derived.DeepKeys5
import Derived.Lib.SmallJoins
import Derived.Sort.Grow
import Derived.Shelf.SlSortCmp.Insertion
import Derived.Sort.Walk0
import Derived.Shelf.SlIter.Nil
import Derived.Shelf.SlSortCmp.NoneTotal
import Derived.Ground.SlsfProg
import Derived.Shelf.SlGeneric
import Derived.RangeFuncBound
import Derived.Sort.OwnSorted
import Derived.Lib.AppendIntMem
namespace Go.Proofs.Ytihgnnocagfdeaa
open Go.RowKit
section
variable {k : IntKind} {t : TypeId} {w w' : World} {b o g B : Nat} {L : List Nat}
end
section
variable {k : IntKind} {t : TypeId} {w w' : World} {g B B' c : Nat} {A : Option Addr} {L : List Nat}
end
theorem below_alloc_new {w : World} (o : Obj) : Below w.heap.size w (w.alloc o) := (Below.refl _ _).alloc (Nat.le_refl _) _
theorem dc_drew {B : Nat} {a w : World} (h : Below B a w) : Below B a w.drew := ⟨h.os, h.tape, h.output, h.size, h.block⟩
theorem below_more {W w w' : World} (h : Below W.heap.size W w) (hb : Below w.heap.size w w') : Below W.heap.size W w' := h.trans (hb.mono h.size)
structure Acc where
 code : Int
 kind : Int
 basis : Int
 par : Int
structure Bal where
 acct : Int
 amt : Int
instance : DecidableEq Bal := fun a b => decidable_of_iff (a.acct = b.acct ∧ a.amt = b.amt) (by cases a; cases b; simp)
def cmI (x y : Int) : Int := if x < y then -1 else if y < x then 1 else 0
open Go.RowKit
structure A4 (w : World) (b o : Nat) (a : Acc) : Prop where
 c0 : w.cell? ⟨b, o, none⟩ = some (.int .i64 a.code)
 c1 : w.cell? ⟨b, o + 1, none⟩ = some (.int .i64 a.kind)
 c2 : w.cell? ⟨b, o + 2, none⟩ = some (.int .i64 a.basis)
 c3 : w.cell? ⟨b, o + 3, none⟩ = some (.int .i64 a.par)
structure B2 (w : World) (b o : Nat) (a : Bal) : Prop where
 c0 : w.cell? ⟨b, o, none⟩ = some (.int .i64 a.acct)
 c1 : w.cell? ⟨b, o + 1, none⟩ = some (.int .i64 a.amt)
section
variable {w w' : World} {b o g B : Nat} {a : Acc} {x : Bal} {A : Option Addr} {L : List Acc} {M : List Bal}
end
def vdB (n : Int) : Bool := decide (-25567 ≤ n) && decide (n ≤ 84005)
open Go.RowKit
structure Lnk where
 frm : Int
 tgt : Int
 since : Int
section
variable {w w' : World} {b o g Bs m d n c : Nat} {l : Lnk} {A B : Option Addr} {L : List Lnk} {nm cur : ByteArray} {jt : Bool}
end
open Go.RowKit
abbrev wr (x : Int) : Int := wrap64 x
def ltK (a b : Int × Int) : Prop := a.1 < b.1 ∨ a.1 = b.1 ∧ a.2 < b.2
instance (a b : Int × Int) : Decidable (ltK a b) := by unfold ltK; infer_instance
theorem below_new {W w : World} (h : Below W.heap.size W w) (o : Obj) : Below W.heap.size W (w.alloc o) := below_more h (below_alloc_new o)
theorem ccmp_any (x y : Int) (w : World) : Calls Try.prog 51 #[.int .i64 x, .int .i64 y] w fun e w' => e = .returned (.int .i64 (cmI x y)) ∧ w = w' := by
 have hn : ∀ (x : Int) (w : World), Calls Try.prog 58 #[.int .i64 x] w fun e w' => e = .returned (.bool false) ∧ w = w' := by
  intro x w
  have h : (x != x) = false := by simp
  go_enter Try.func58, Try.ntmps58
  go_wp2_with fail
  go_ret
  exact ⟨rfl, rfl⟩
 have HN := Lib.hid hn
 clear hn
 unfold cmI
 rcases Int.lt_trichotomy x y with h | h | h
 ·rw [if_pos h]
  go_enter Try.func51, Try.ntmps51
  go_wp2_with (go_at_call 58; refine (HN.out _ _).mono ?_; rintro e w' ⟨rfl, rfl⟩)
  go_ret
  exact ⟨rfl, rfl⟩
 ·subst h
  rw [if_neg (Int.lt_irrefl _), if_neg (Int.lt_irrefl _)]
  have h1 : decide (x < x) = false := decide_eq_false (Int.lt_irrefl _)
  go_enter Try.func51, Try.ntmps51
  go_wp2_with (go_at_call 58; refine (HN.out _ _).mono ?_; rintro e w' ⟨rfl, rfl⟩)
  go_ret
  exact ⟨rfl, rfl⟩
 ·have h2 : ¬ x < y := by omega
  rw [if_neg h2, if_pos h]
  have h1 : decide (x < y) = false := decide_eq_false (by omega)
  go_enter Try.func51, Try.ntmps51
  go_wp2_with (go_at_call 58; refine (HN.out _ _).mono ?_; rintro e w' ⟨rfl, rfl⟩)
  go_ret
  exact ⟨rfl, rfl⟩
open Go Go.RowKit
structure Fact where
 p : Value → World → Prop
 st : ∀ v w w', Below w.heap.size w w' → p v w → p v w'
def Fact.triv : Fact := ⟨fun _ _ => True, fun _ _ _ _ _ => trivial⟩
def look : List (Nat × Fact) → Nat → Fact
 | [], _ => Fact.triv
 | (k, f) :: rest, d => bif Nat.beq k d then f else look rest d
def factOf (FL : List (Nat × Fact)) (dst : Option Nat) (v : Value) (w : World) : Prop := match dst with
 | none => True
 | some d => (look FL d).p v w
def fillL (u : Nat → Value) : List Nat → Array Value → Array Value
 | [], t => t
 | d :: ds, t => fillL u ds (t.setIfInBounds d (u d))
def upd (u : Nat → Value) (d : Option Nat) (v : Value) (n : Nat) : Value := match d with
 | none => u n
 | some d => if n = d then v else u n
theorem fillL_size (u : Nat → Value) (ds : List Nat) : ∀ t : Array Value, (fillL u ds t).size = t.size := by
 induction ds with
 | nil => intro t; rfl
 | cons d ds ih => intro t; rw [fillL, ih]; simp
theorem fillL_get (u : Nat → Value) (ds : List Nat) : ∀ (t : Array Value) (n : Nat), (fillL u ds t)[n]? = if n < t.size then (if n ∈ ds then some (u n) else t[n]?) else none := by
 induction ds with
 | nil => intro t n; by_cases h : n < t.size <;> simp [fillL, h]
 | cons d ds ih =>
  intro t n
  rw [fillL, ih]
  by_cases h : n < t.size
  ·simp only [Array.size_setIfInBounds, h, if_true, List.mem_cons]
   by_cases h1 : n ∈ ds
   ·simp [h1]
   ·by_cases h2 : n = d
    ·subst h2; simp [h1, h]
    ·simp only [h1, h2, if_false, or_self]; rw [Array.getElem?_setIfInBounds_ne (Ne.symm h2)]
  ·simp [h]
theorem fillL_upd (u : Nat → Value) (ds : List Nat) (t : Array Value) (d : Nat) (v : Value) (hd : d ∈ ds) : (fillL u ds t).setIfInBounds d v = fillL (upd u (some d) v) ds t := by
 apply Array.ext_getElem?
 intro n
 rw [Array.getElem?_setIfInBounds, fillL_get, fillL_get, fillL_size]
 by_cases h : n < t.size
 ·by_cases h2 : d = n
  ·subst h2; simp [h, hd, upd]
  ·simp only [h, h2, if_true, if_false]
   by_cases h3 : n ∈ ds
   ·simp [h3, upd, Ne.symm h2]
   ·simp [h3]
 ·simp only [h, if_false]
  by_cases h2 : d = n
  ·subst h2; simp [h]
  ·simp [h2]
theorem fillL_self (ds : List Nat) (t : Array Value) : fillL (fun d => t.getD d undef) ds t = t := by
 apply Array.ext_getElem?
 intro n
 rw [fillL_get]
 by_cases h : n < t.size
 ·simp [h]
 ·simp [h]
def allWritten (ops : Array Oper) (ds : List Nat) : Bool := ds.all fun d => ops.any fun o => o.dst == some d
theorem filter_less {p q : Nat → Bool} {i : Nat} (hpi : p i = true) (hqi : q i = false) (h : ∀ j, q j = true → p j = true) : ∀ l : List Nat, i ∈ l → (l.filter q).length < (l.filter p).length := by
 have hle : ∀ l : List Nat, (l.filter q).length ≤ (l.filter p).length := by
  intro l
  induction l with
  | nil => simp
  | cons x l ih =>
   rw [List.filter_cons, List.filter_cons]
   by_cases hq : q x = true
   ·simp [hq, h x hq]; exact ih
   ·by_cases hp : p x = true <;> simp [hq, hp] <;> omega
 intro l hl
 induction l with
 | nil => cases hl
 | cons x l ih =>
  rw [List.filter_cons, List.filter_cons]
  rcases List.mem_cons.1 hl with rfl | hl
  ·simp [hpi, hqi]; have := hle l; omega
  ·have := ih hl
   by_cases hq : q x = true
   ·simp [hq, h x hq]; exact this
   ·by_cases hp : p x = true <;> simp [hq, hp] <;> omega
section
variable {P : Program} {ops : Array Oper} {Q : Exit → Act → World → Prop} {FL : List (Nat × Fact)} {J : World → Prop} {t0 : Array Value} {df : List Deferred} {ds : List Nat}
def Written (ops : Array Oper) (listed : Array Bool) (d : Nat) : Prop := ∃ j o', listed.getD j false = true ∧ ops[j]? = some o' ∧ o'.dst = some d
theorem Written.more {listed : Array Bool} {d i : Nat} (h : Written ops listed d) : Written ops (listed.setIfInBounds i true) d := by
 obtain ⟨j, o', h1, h2, h3⟩ := h
 exact ⟨j, o', getD_set_true h1, h2, h3⟩
theorem put_fill (u : Nat → Value) (o : Oper) (v : Value) (hd : ∀ d, o.dst = some d → d ∈ ds) : (⟨fillL u ds t0, df⟩ : Act).put o.dst v = ⟨fillL (upd u o.dst v) ds t0, df⟩ := by
 cases h : o.dst with
 | none => rfl
 | some d =>
  show Act.mk ((fillL u ds t0).setIfInBounds d v) df = _
  rw [fillL_upd _ _ _ _ _ (hd d h)]
theorem none_listed (n j : Nat) : (Array.replicate n false).getD j false = false := by
 by_cases h : j < n <;> simp [h]
end
open Go Go.RowKit
def AS.NoInt (w : World) (b : Nat) : Prop := ∀ j k n, w.cell? ⟨b, j, none⟩ ≠ some (.int k n)
open AS (NoInt)
def Leaf (x : Value) : Prop := ∀ k n, x ≠ .int k n
structure Bx (t : TypeId) (w : World) (g : Nat) (vs : List Value) : Prop where
 blk : w.heap[g]? = some (.cells vs.toArray t (0, 0))
 leaf : ∀ v ∈ vs, Leaf v
section
variable {t : TypeId} {w w' : World} {g : Nat} {vs : List Value}
end
end Go.Proofs.Ytihgnnocagfdeaa
namespace Go.Proofs.Ytihgnnocagfdeaa.AS
open Go Go.RowKit
open Go.Proofs.Ytihgnnocagfdeaa (fillL upd fillL_size fillL_get fillL_upd fillL_self filter_less none_listed put_fill)
structure Keep (w w' : World) : Prop where
 size : w.heap.size ≤ w'.heap.size
 blk : ∀ i, i < w.heap.size → (∃ j k n, w.cell? ⟨i, j, none⟩ = some (.int k n)) → w'.heap[i]? = w.heap[i]?
 box : ∀ (t : TypeId) (g : Nat) (vs : List Value), 2 ≤ vs.length → Bx t w g vs → ∃ vs' : List Value, vs'.length = vs.length ∧ Bx t w' g vs'
structure Fact where
 p : Value → World → Prop
 st : ∀ v w w', Keep w w' → p v w → p v w'
def edgesOk (ops : Array Oper) : Bool := (List.range ops.size).all fun i => match ops[i]? with
 | none => true
 | some o => o.after.all fun e => !Region.binds .any e || decide (e.on < i)
def needsOk (ops : Array Oper) (pt : List (List Nat)) (ds : List Nat) : Bool :=
 (List.range ops.size).all fun i => match ops[i]? with
  | none => true
  | some o => (match o.dst with | some d => ds.contains d | none => true) &&
   (pt.getD i []).all fun d => o.after.any fun e => Region.binds .any e && ((match ops[e.on]? with | some o' => o'.dst == some d | none => false) || (pt.getD e.on []).contains d)
def onceOk (ops : Array Oper) : Bool := (List.range ops.size).all fun i => (List.range ops.size).all fun j => match ops[i]?, ops[j]? with
 | some o, some o' => Nat.beq i j || (match o.dst, o'.dst with | some d, some d' => !Nat.beq d d' | _, _ => true)
 | _, _ => true
def waits2 (ops : Array Oper) (s i : Nat) : Bool := Region.waitsFor .any ops s i || (List.range ops.size).any fun j => Region.waitsFor .any ops s j && Region.waitsFor .any ops j i
def limOk (ops : Array Oper) (st lm : List Nat) : Bool :=
 (List.range ops.size).all fun i => Nat.beq (lm.getD i st.length) st.length || waits2 ops (st.getD (lm.getD i st.length) ops.size) i
def allocsOk (ops : Array Oper) (al st : List Nat) : Bool := al.all fun d => st.all fun s => (List.range ops.size).any fun i => (match ops[i]? with | some o => o.dst == some d | none => false) && waits2 ops s i
section
variable {P : Program} {ops : Array Oper} {Q : Exit → Act → World → Prop} {FL : List (Nat × Fact)} {J : Nat → List Value → World → Prop} {t0 : Array Value} {df : List Deferred} {ds : List Nat}
 {st lm al : List Nat} {js : List (List Nat)} {pt : List (List Nat)}
def aOk (al : List Nat) (dst : Option Nat) (v : Value) (w w' : World) : Prop := match dst with
 | some d => bif al.contains d then v = .pointer (some ⟨w.heap.size, 0, none⟩) ∧ w.heap.size < w'.heap.size else True
 | none => True
def Apart (al : List Nat) (u : Nat → Value) : Prop := ∀ d ∈ al, ∀ d' ∈ al, d ≠ d' → u d ≠ u d'
theorem getD_flag {listed : Array Bool} {i : Nat} (h : i < listed.size) : listed.getD i true = listed.getD i false := by simp [h]
end
end Go.Proofs.Ytihgnnocagfdeaa.AS
namespace Go.Proofs.Ytihgnnocagfdeaa
theorem bl_inj {a b : ByteArray} (h : a.toList = b.toList) : a = b := by
 rw [ByteArray.toList_eq, ByteArray.toList_eq] at h
 exact ByteArray.ext (Array.toList_inj.1 h)
def allC (p : UInt8 → Bool) (s : ByteArray) : Bool := s.data.toList.all p
theorem tl_at (s : ByteArray) (k : Nat) (h : k < s.size) : s.data.toList[k]'(by simpa using h) = s[k] := by simp; rfl
theorem allC_no {p : UInt8 → Bool} {s : ByteArray} {k : Nat} (h : k < s.size) (hd : p (s[k]'h) = false) : allC p s = false := by
 cases ha : allC p s
 ·rfl
 ·unfold allC at ha
  rw [List.all_eq_true] at ha
  have := ha _ (List.getElem_mem (l := s.data.toList) (n := k) (by simpa using h))
  rw [tl_at s k h, hd] at this
  cases this
theorem allC_yes {p : UInt8 → Bool} {s : ByteArray} (h : ∀ j, (h2 : j < s.size) → p (s[j]'h2) = true) : allC p s = true := by
 unfold allC
 rw [List.all_eq_true]
 intro c hc
 obtain ⟨j, hj, rfl⟩ := List.getElem_of_mem hc
 rw [tl_at s j (by simpa using hj)]
 exact h j (by simpa using hj)
def capB (b : UInt8) : Bool := decide (65 ≤ b.toNat) && decide (b.toNat ≤ 90)
def curB (s : ByteArray) : Bool := decide (s.size = 3) && allC capB s
theorem curB_no {s : ByteArray} {k : Nat} (h : k < s.size) (hd : capB (s[k]'h) = false) : curB s = false := by
 unfold curB; rw [allC_no h hd]; simp
abbrev RK := ByteArray × Int × Int
abbrev Rt := RK × Int
abbrev rt0 : Rt := ((⟨#[]⟩, 0, 0), 0)
def cmS (a b : ByteArray) : Int := if a.data.toList < b.data.toList then -1 else if b.data.toList < a.data.toList then 1 else 0
def cmR (a b : RK) : Int := if cmS a.1 b.1 = 0 then (if cmI a.2.1 b.2.1 = 0 then cmI a.2.2 b.2.2 else cmI a.2.1 b.2.1) else cmS a.1 b.1
def ltR (a b : RK) : Prop := cmR a b < 0
theorem cmS_neg {a b : ByteArray} : cmS a b < 0 ↔ a.data.toList < b.data.toList := by
 unfold cmS
 by_cases h : a.data.toList < b.data.toList
 ·simp [h]
 ·rw [if_neg h]
  split <;> simp [h]
theorem cmS_self (a : ByteArray) : cmS a a = 0 := by
 unfold cmS
 rw [if_neg (List.lt_irrefl _), if_neg (List.lt_irrefl _)]
theorem cmS_zero {a b : ByteArray} : cmS a b = 0 ↔ a = b := by
 constructor
 ·intro h
  unfold cmS at h
  by_cases h1 : a.data.toList < b.data.toList
  ·rw [if_pos h1] at h; cases h
  ·by_cases h2 : b.data.toList < a.data.toList
   ·rw [if_neg h1, if_pos h2] at h; cases h
   ·exact ByteArray.ext (Array.toList_inj.1 (List.le_antisymm (List.not_lt.1 h2) (List.not_lt.1 h1)))
 ·rintro rfl
  exact cmS_self a
theorem rI_neg {x y : Int} : cmI x y < 0 ↔ x < y := by unfold cmI; split <;> (try split) <;> omega
theorem rI_zero {x y : Int} : cmI x y = 0 ↔ x = y := by unfold cmI; split <;> (try split) <;> omega
theorem ltR_iff {a b : RK} : ltR a b ↔ a.1.data.toList < b.1.data.toList ∨ a.1 = b.1 ∧ (a.2.1 < b.2.1 ∨ a.2.1 = b.2.1 ∧ a.2.2 < b.2.2) := by
 unfold ltR cmR
 by_cases h1 : cmS a.1 b.1 = 0
 ·rw [if_pos h1]
  have e1 := cmS_zero.1 h1
  rw [e1]
  by_cases h2 : cmI a.2.1 b.2.1 = 0
  ·rw [if_pos h2, rI_neg]
   have e2 := rI_zero.1 h2
   rw [e2]
   simp [List.lt_irrefl]
  ·rw [if_neg h2, rI_neg]
   have e2 := mt rI_zero.2 h2
   simp [List.lt_irrefl, e2]
 ·rw [if_neg h1, cmS_neg]
  have e1 := mt cmS_zero.2 h1
  simp [e1]
theorem ltR_irrefl (a : RK) : ¬ ltR a a := by
 rw [ltR_iff]
 rintro (h | ⟨_, h⟩)
 ·exact List.lt_irrefl _ h
 ·omega
theorem ltR_trans {a b c : RK} (h : ltR a b) (k : ltR b c) : ltR a c := by
 rw [ltR_iff] at *
 rcases h with h | ⟨e, h⟩
 ·rcases k with k | ⟨e2, k⟩
  ·exact .inl (List.lt_trans h k)
  ·rw [← e2]; exact .inl h
 ·rw [e]
  rcases k with k | ⟨e2, k⟩
  ·exact .inl k
  ·exact .inr ⟨e2, by omega⟩
theorem ltR_tri {a b : RK} (h : ¬ ltR a b) (k : ¬ ltR b a) : a = b := by
 rw [ltR_iff] at *
 simp only [not_or, not_and] at h k
 obtain ⟨h1, h2⟩ := h
 obtain ⟨k1, k2⟩ := k
 have e : a.1 = b.1 := ByteArray.ext (Array.toList_inj.1 (List.le_antisymm (List.not_lt.1 k1) (List.not_lt.1 h1)))
 have h3 := h2 e
 have k3 := k2 e.symm
 obtain ⟨a1, a2, a3⟩ := a
 obtain ⟨b1, b2, b3⟩ := b
 dsimp only at *
 have e2 : a2 = b2 := by omega
 have e3 : a3 = b3 := by omega
 rw [e, e2, e3]
def rtM (k n : Int) : Bool := if k = 1 then vdB n else if k = 2 then decide (0 ≤ n) && decide (n < 120) else false
def rtP (g : ByteArray) (r : Rt) : Bool := curB r.1.1 && (!decide (r.1.1 = g) && (decide (1 ≤ r.2) && (decide (r.2 ≤ 1000000000000) && rtM r.1.2.1 r.1.2.2)))
def rtF (L : List Rt) (k : RK) : Option Int := (L.find? fun r => decide (r.1 = k)).map (·.2)
theorem rtF_cons (r : Rt) (L : List Rt) (k : RK) : rtF (r :: L) k = if r.1 = k then some r.2 else rtF L k := by
 unfold rtF
 rw [List.find?_cons]
 by_cases h : r.1 = k
 ·rw [decide_eq_true h, if_pos h]; rfl
 ·rw [decide_eq_false h, if_neg h]
theorem rtF_none {L : List Rt} {k : RK} : rtF L k = none ↔ ∀ r ∈ L, r.1 ≠ k := by
 unfold rtF
 rw [Option.map_eq_none_iff, List.find?_eq_none]
 simp
theorem rtF_at {L : List Rt} {k : RK} {i : Nat} (hi : i < L.length) (h0 : ∀ j, j < i → (L.getD j rt0).1 ≠ k) (h : (L.getD i rt0).1 = k) : rtF L k = some (L.getD i rt0).2 := by
 induction L generalizing i with
 | nil => simp at hi
 | cons x L ih =>
  rw [rtF_cons]
  cases i with
  | zero => simp at h; rw [if_pos h]; simp
  | succ i =>
   have h1 := h0 0 (by omega)
   simp at h1
   rw [if_neg h1]
   simpa using ih (i := i) (by simpa using hi) (fun j hj => by simpa using h0 (j + 1) (by omega)) (by simpa using h)
theorem rtF_no {L : List Rt} {k : RK} (h0 : ∀ j, j < L.length → (L.getD j rt0).1 ≠ k) : rtF L k = none := rtF_none.2 fun r hr => by
 obtain ⟨i, hi, rfl⟩ := List.getElem_of_mem hr
 have := h0 i hi
 rw [List.getD_eq_getElem?_getD, List.getElem?_eq_getElem hi] at this
 exact this
def tbF (H : List Rt) (k : RK) : Option Int := rtF H.reverse k
theorem tbF_nil (k : RK) : tbF [] k = none := rfl
theorem tbF_snoc (H : List Rt) (r : Rt) (k : RK) : tbF (H ++ [r]) k = if k = r.1 then some r.2 else tbF H k := by
 unfold tbF
 rw [List.reverse_append, List.reverse_singleton, List.singleton_append, rtF_cons]
 by_cases h : r.1 = k
 ·rw [if_pos h, if_pos h.symm]
 ·rw [if_neg h, if_neg (Ne.symm h)]
def AscT (L : List Rt) : Prop := L.Pairwise fun a b => ltR a.1 b.1
theorem ascT_ext {L M : List Rt} (h : AscT L) (k : AscT M) (he : ∀ x, x ∈ L ↔ x ∈ M) : L = M := by
 have n1 : L.Nodup := List.Pairwise.imp (R := fun a b : Rt => ltR a.1 b.1) (fun {a b} hab e => by subst e; exact ltR_irrefl _ hab) h
 have n2 : M.Nodup := List.Pairwise.imp (R := fun a b : Rt => ltR a.1 b.1) (fun {a b} hab e => by subst e; exact ltR_irrefl _ hab) k
 have hp : L.Perm M := (List.perm_ext_iff_of_nodup n1 n2).2 he
 have h2 : L.Pairwise fun a b => ltR a.1 b.1 := h
 have k2 : M.Pairwise fun a b => ltR a.1 b.1 := k
 exact List.Perm.eq_of_pairwise (fun a b _ _ x y => absurd (ltR_trans x y) (ltR_irrefl _)) h2 k2 hp
def putR : List Rt → Rt → List Rt
 | [], r => [r]
 | x :: L, r => if cmR x.1 r.1 < 0 then x :: putR L r else if x.1 = r.1 then r :: L else r :: x :: L
theorem putR_mem {L : List Rt} (h : AscT L) (r x : Rt) : x ∈ putR L r ↔ x = r ∨ x ∈ L ∧ x.1 ≠ r.1 := by
 induction L with
 | nil => simp [putR]
 | cons y L ih =>
  unfold AscT at h
  rw [List.pairwise_cons] at h
  obtain ⟨h1, h2⟩ := h
  unfold putR
  have gt : ¬ cmR y.1 r.1 < 0 → x ∈ L → x.1 ≠ r.1 := fun hc hx e => by
   have h3 := h1 x hx
   rw [e] at h3
   exact hc h3
  by_cases hc : cmR y.1 r.1 < 0
  ·rw [if_pos hc, List.mem_cons, ih h2, List.mem_cons]
   have hne : y.1 ≠ r.1 := fun e => by rw [e] at hc; exact ltR_irrefl _ hc
   constructor
   ·rintro (rfl | h | ⟨h, h3⟩)
    ·exact .inr ⟨.inl rfl, hne⟩
    ·exact .inl h
    ·exact .inr ⟨.inr h, h3⟩
   ·rintro (h | ⟨rfl | h, h3⟩)
    ·exact .inr (.inl h)
    ·exact .inl rfl
    ·exact .inr (.inr ⟨h, h3⟩)
  ·rw [if_neg hc]
   by_cases he : y.1 = r.1
   ·rw [if_pos he, List.mem_cons, List.mem_cons]
    constructor
    ·rintro (h | h)
     ·exact .inl h
     ·exact .inr ⟨.inr h, gt hc h⟩
    ·rintro (h | ⟨rfl | h, h3⟩)
     ·exact .inl h
     ·exact absurd he h3
     ·exact .inr h
   ·rw [if_neg he, List.mem_cons, List.mem_cons]
    constructor
    ·rintro (h | rfl | h)
     ·exact .inl h
     ·exact .inr ⟨.inl rfl, he⟩
     ·exact .inr ⟨.inr h, gt hc h⟩
    ·rintro (h | ⟨h, h3⟩)
     ·exact .inl h
     ·exact .inr h
theorem putR_asc {L : List Rt} (h : AscT L) (r : Rt) : AscT (putR L r) := by
 induction L with
 | nil => exact List.pairwise_singleton _ _
 | cons y L ih =>
  have h0 := h
  unfold AscT at h
  rw [List.pairwise_cons] at h
  obtain ⟨h1, h2⟩ := h
  unfold putR
  by_cases hc : cmR y.1 r.1 < 0
  ·rw [if_pos hc]
   refine List.pairwise_cons.2 ⟨fun x hx => ?_, ih h2⟩
   rcases (putR_mem h2 r x).1 hx with rfl | ⟨h3, _⟩
   ·exact hc
   ·exact h1 x h3
  ·rw [if_neg hc]
   by_cases he : y.1 = r.1
   ·rw [if_pos he]
    exact List.pairwise_cons.2 ⟨fun x hx => by rw [← he]; exact h1 x hx, h2⟩
   ·rw [if_neg he]
    have hl : ltR r.1 y.1 := by
     rcases Decidable.em (cmR r.1 y.1 < 0) with q | q
     ·exact q
     ·exact absurd (ltR_tri hc q) he
    refine List.pairwise_cons.2 ⟨fun x hx => ?_, h0⟩
    rcases List.mem_cons.1 hx with rfl | hx
    ·exact hl
    ·exact ltR_trans hl (h1 x hx)
theorem putR_len (L : List Rt) (r : Rt) : (putR L r).length ≤ L.length + 1 := by
 induction L with
 | nil => simp [putR]
 | cons y L ih =>
  unfold putR
  split
  ·simpa using ih
  ·split <;> simp
def rtL (H : List Rt) : List Rt := H.foldl putR []
theorem rtL_snoc (H : List Rt) (r : Rt) : rtL (H ++ [r]) = putR (rtL H) r := by unfold rtL; rw [List.foldl_append]; rfl
theorem snocInd {P : List Rt → Prop} (h0 : P []) (h1 : ∀ H r, P H → P (H ++ [r])) (H : List Rt) : P H := by
 have key : ∀ L : List Rt, P L.reverse := fun L => by
  induction L with
  | nil => exact h0
  | cons x L ih => rw [List.reverse_cons]; exact h1 _ _ ih
 have := key H.reverse
 rwa [List.reverse_reverse] at this
theorem rtL_asc (H : List Rt) : AscT (rtL H) := snocInd (P := fun H => AscT (rtL H)) List.Pairwise.nil (fun H r ih => by rw [rtL_snoc]; exact putR_asc ih r) H
theorem rtL_len (H : List Rt) : (rtL H).length ≤ H.length := snocInd (P := fun H => (rtL H).length ≤ H.length) (Nat.le_refl _) (fun H r ih => by
 rw [rtL_snoc, List.length_append]
 have := putR_len (rtL H) r
 simp; omega) H
theorem rtL_mem (H : List Rt) : ∀ x : Rt, x ∈ rtL H ↔ tbF H x.1 = some x.2 := snocInd (P := fun H => ∀ x : Rt, x ∈ rtL H ↔ tbF H x.1 = some x.2) (fun x => by simp [rtL, tbF_nil]) (fun H r ih x => by
 rw [rtL_snoc, putR_mem (rtL_asc H), tbF_snoc, ih x]
 by_cases h : x.1 = r.1
 ·rw [if_pos h]
  constructor
  ·rintro (rfl | ⟨_, h2⟩)
   ·rfl
   ·exact absurd h h2
  ·intro h2
   injection h2 with h2
   exact .inl (Prod.ext h h2.symm)
 ·rw [if_neg h]
  constructor
  ·rintro (rfl | ⟨h2, _⟩)
   ·exact absurd rfl h
   ·exact h2
  ·exact fun h2 => .inr ⟨h2, h⟩) H
def rtH (g : ByteArray) (L : List Rt) : List Rt := L.filter (rtP g)
def adR (g : ByteArray) (H : List Rt) (r : Rt) : List Rt := if rtP g r then H ++ [r] else H
theorem rtH_snoc (g : ByteArray) (L : List Rt) (r : Rt) : rtH g (L ++ [r]) = adR g (rtH g L) r := by
 unfold rtH adR
 rw [List.filter_append]
 cases h : rtP g r <;> simp [h]
theorem rtH_len (g : ByteArray) (L : List Rt) : (rtH g L).length ≤ L.length := List.length_filter_le _ _
def pS (r : Rt) (s : List Rt × Bool) (x : Rt) : List Rt × Bool :=
 let s1 := if s.2 = false ∧ ¬ cmR x.1 r.1 < 0 then (s.1 ++ [r], true) else s
 if x.1 = r.1 then s1 else (s1.1 ++ [x], s1.2)
def pE (r : Rt) (s : List Rt × Bool) : List Rt := if s.2 then s.1 else s.1 ++ [r]
theorem pS_rest (r : Rt) : ∀ (L out : List Rt), (∀ x ∈ L, x.1 ≠ r.1) → L.foldl (pS r) (out, true) = (out ++ L, true)
 | [], out, _ => by simp
 | x :: L, out, h => by
  rw [List.foldl_cons]
  have h1 : pS r (out, true) x = (out ++ [x], true) := by
   unfold pS
   simp [h x (by simp)]
  rw [h1, pS_rest r L _ (fun y hy => h y (List.mem_cons_of_mem _ hy))]
  simp
theorem pS_put (r : Rt) : ∀ (L out : List Rt), AscT L → pE r (L.foldl (pS r) (out, false)) = out ++ putR L r
 | [], out, _ => rfl
 | x :: L, out, h => by
  unfold AscT at h
  rw [List.pairwise_cons] at h
  rw [List.foldl_cons]
  unfold putR
  by_cases hc : cmR x.1 r.1 < 0
  ·have hne : x.1 ≠ r.1 := fun e => by rw [e] at hc; exact ltR_irrefl _ hc
   have h1 : pS r (out, false) x = (out ++ [x], false) := by
    unfold pS
    simp [hne, hc]
   rw [h1, pS_put r L _ h.2, if_pos hc]
   simp
  ·rw [if_neg hc]
   have hne : ∀ y ∈ L, y.1 ≠ r.1 := fun y hy e => by
    have h3 := h.1 y hy
    rw [e] at h3
    exact hc h3
   by_cases he : x.1 = r.1
   ·have h1 : pS r (out, false) x = (out ++ [r], true) := by
     unfold pS
     rw [if_pos he, if_pos ⟨rfl, hc⟩]
    rw [h1, pS_rest r L _ hne, if_pos he]
    unfold pE
    simp
   ·have h1 : pS r (out, false) x = (out ++ [r] ++ [x], true) := by
     unfold pS
     rw [if_neg he, if_pos ⟨rfl, hc⟩]
    rw [h1, pS_rest r L _ hne, if_neg he]
    unfold pE
    simp
open Go.ChangeShapes Go.WideShapes Go.ChangeAt Go.WideMaps Go.WideElems Go.RowKit
theorem laid_out : laidOutB Try.prog = true := by kernel_rfl
theorem trodAll_stays {H : Type} {enc : TypeId × Value → H} {P : Program} (hl : laidOutB P = true) {W W' : World} (hb : Below W.heap.size W W') {sp : Nat → Bool} :
  ∀ {ts : List TypeId} {vs : List Value} {ds : List (DataW H)} {ps : List MemPlace}, (ts.all fun t => P.readableRec t && decide (t < P.types.size)) = true → DataW.TrodAll enc P W 0 (fun _ => true) true ts vs ds ps →
   (∀ x ∈ ps, x.block < W.heap.size) → (∀ x ∈ ps, sp x.block = true) → DataW.TrodAll enc P W' 0 sp true ts vs ds ps
 | [], vs, ds, ps, _, h, _, _ => by
  cases vs <;> cases ds <;> simp [DataW.TrodAll] at h ⊢
  exact h
 | t :: ts, vs, ds, ps, ht, h, hlt, hs => by
  obtain ⟨v, vs', d, ds', p, q, rfl, rfl, rfl, h1, h2⟩ := trodAll_cons h
  simp only [List.all_cons, Bool.and_eq_true, decide_eq_true_eq] at ht
  refine trodAll_cons_mk (WideElems.Trod_stays hl ht.1.1 ht.1.2 h1 (fun x hx => hb.same (hlt x (by simp [hx]))) fun x hx => hs x (by simp [hx])) ?_
  exact trodAll_stays hl hb ht.2 h2 (fun x hx => hlt x (by simp [hx])) fun x hx => hs x (by simp [hx])
theorem post_plain {H : Type} {enc : TypeId × Value → H} {P : Program} {f : Func} {s : ChangeSpec} {ap fr ho ag : Bool} {W W' : World} {args : Array Value} {v : Value} {ds gs : List (DataW H)} {before pa pv : List MemPlace}
  (hW : DataW.Whole enc P f.params.toList s.vars ap W args.toList ds gs before)
  (hres : ∀ (b : Nat) (sp : Nat → Bool) (hd : Bool), DataW.TrodAll enc P W' b sp hd f.resultTypes.toList (v.resultList f.resultTypes.size) (s.fn H (ds ++ gs)).results [])
  (hargs : ∀ sp : Nat → Bool, (∀ p ∈ before, sp p.block = true) → DataW.TrodAll enc P W' 0 sp true f.params.toList args.toList (s.fn H (ds ++ gs)).args pa)
  (hvars : ∀ sp : Nat → Bool, (∀ p ∈ before, sp p.block = true) → DataW.TrodVars enc P W' sp s.vars (s.fn H (ds ++ gs)).vars pv)
  (hps : before = pa ++ pv) (hb : Below W.heap.size W W')
  (hok : ∀ (j : Nat) (t : TypeId) (r : Value), f.resultTypes[j]? = some t → (v.resultList f.resultTypes.size)[j]? = some r → Value.okWide P W' .any 0 t r) : s.post enc P f ap fr ho ag W args v W' := by
 have hlt : ∀ p ∈ before, p.block < W.heap.size := fun p hp => hW.lt p hp
 have hin : ∀ p ∈ before, (fun b => decide (b < W.heap.size)) p.block = true := fun p hp => by simpa using hlt p hp
 refine ⟨ds, gs, before, [], pa, pv, hW, hres _ _ _, hargs _ hin, hvars _ hin, World.keptBut_mono (fun p hp => ⟨hp, .inr (List.mem_append.1 (hps ▸ hp))⟩) (hb.frame (· ∈ before)), fun _ => ?_⟩
 obtain ⟨_, _, _, _, _, hz, hn⟩ := hW
 refine ⟨hok, _, _, ([] ++ pa) ++ pv, ⟨[] ++ pa, pv, trodAll_append (hargs _ (fun _ _ => rfl)) (hres _ _ _), hvars _ (fun _ _ => rfl), rfl, fun b off hp => ?_, fun ha => ?_⟩, ?_⟩
 ·have hbe : MemPlace.cell b off ∈ before := by rw [hps]; simpa using hp
  rw [hb.frozen (hlt _ hbe)]
  exact hz b off hbe
 ·have h9 := hn ha
  rw [hps] at h9
  simpa using h9
 ·intro p hp _
  rw [hps, ← List.nil_append pa]
  exact hp
open Go.ChangeShapes Go.WideShapes Go.ChangeAt Go.WideMaps Go.WideElems Go.RowKit Go.Deep Go.Joins
structure Ent where
 nm : ByteArray
 cur : ByteArray
 A : Option Addr
 n : Nat
 c : Nat
 B : Option Addr
 m : Nat
 d : Nat
 jt : Bool
 L : List Acc
 K : List Lnk
section
variable {w w' : World} {b o Bs : Nat} {e : Ent} {X : Option Addr} {G : List Ent}
end
section
variable {H : Type} {enc : TypeId × Value → H} {W : World}
end
open Go.RowKit
structure Grp where
 cur : ByteArray
 cy : Int
 cm : Int
 cp : Int
 A : Option Addr
 n : Nat
 c : Nat
 r0 : Int
 r1 : Int
 r2 : Int
 r3 : Int
 r4 : Int
 r5 : Int
 r6 : Int
 r7 : Int
 r8 : Int
 r9 : Int
 r10 : Int
 r11 : Int
 r12 : Int
 r13 : Int
 r14 : Int
 E : Option Addr
 m : Nat
 d : Nat
structure GB (w : World) (b : Nat) (g : Grp) : Prop where
 c0 : w.cell? ⟨b, 0, none⟩ = some (.string g.cur)
 c1 : w.cell? ⟨b, 1, none⟩ = some (.int .i64 g.cy)
 c2 : w.cell? ⟨b, 2, none⟩ = some (.int .i64 g.cm)
 c3 : w.cell? ⟨b, 3, none⟩ = some (.int .i64 g.cp)
 c4 : w.cell? ⟨b, 4, none⟩ = some (.slice g.A g.n g.c)
 c5 : w.cell? ⟨b, 5, none⟩ = some (.int .i64 g.r0)
 c6 : w.cell? ⟨b, 6, none⟩ = some (.int .i64 g.r1)
 c7 : w.cell? ⟨b, 7, none⟩ = some (.int .i64 g.r2)
 c8 : w.cell? ⟨b, 8, none⟩ = some (.int .i64 g.r3)
 c9 : w.cell? ⟨b, 9, none⟩ = some (.int .i64 g.r4)
 c10 : w.cell? ⟨b, 10, none⟩ = some (.int .i64 g.r5)
 c11 : w.cell? ⟨b, 11, none⟩ = some (.int .i64 g.r6)
 c12 : w.cell? ⟨b, 12, none⟩ = some (.int .i64 g.r7)
 c13 : w.cell? ⟨b, 13, none⟩ = some (.int .i64 g.r8)
 c14 : w.cell? ⟨b, 14, none⟩ = some (.int .i64 g.r9)
 c15 : w.cell? ⟨b, 15, none⟩ = some (.int .i64 g.r10)
 c16 : w.cell? ⟨b, 16, none⟩ = some (.int .i64 g.r11)
 c17 : w.cell? ⟨b, 17, none⟩ = some (.int .i64 g.r12)
 c18 : w.cell? ⟨b, 18, none⟩ = some (.int .i64 g.r13)
 c19 : w.cell? ⟨b, 19, none⟩ = some (.int .i64 g.r14)
 c20 : w.cell? ⟨b, 20, none⟩ = some (.slice g.E g.m g.d)
 lt : b < w.heap.size
section
variable {w w' : World} {b : Nat} {g : Grp} {e : Ent}
end
theorem wpList_load_is {P : Program} {w : World} {ops : Array Oper} {rest : List Oper} {o : Oper} {a : Act} {Q : Exit → Act → World → Prop} (hg : o.guard = none) (ty : TypeId) (x : Operand) (hop : o.op = .load ty x) (p : Value) (hx : a.eval x = p) (V : Value)
  (hl : (Instr.loadAt ty p).run P w = .ok V w) (h : wpList P ops Q rest (a.put o.dst V) w) : wpList P ops Q (o :: rest) a w := by
 refine wpList_plain hg fun K hK => ?_
 unfold Oper.wp execOp
 simp only [hop, hx, Sem.run_bind, hl, Sem.run_pure, Result.andThen_ok]
 exact hK _ _ h
open Go.RowKit
structure Rg (w : World) (b : Nat) (cs : List Value) : Prop where
 cell : ∀ j v, cs[j]? = some v → w.cell? ⟨b, j, none⟩ = some v
 lt : b < w.heap.size
theorem Rg.load {P : Program} {w : World} {b : Nat} {cs : List Value} (h : Rg w b cs) (off : Nat) (ty : TypeId) (sub : List Value) (hs : sub = (cs.drop off).take sub.length) (d : TypeDesc) (hu : P.underlying ty = some d) (hd : d.isRow = true) (hi : (P.info? ty).map (·.size) = some sub.length) :
  (Instr.loadAt ty (.pointer (some ⟨b, off, none⟩))).run P w = .ok (.agg sub.toArray) w :=
 run_loadAt_mid w b off ty sub d (fun j v hj => h.cell _ _ (by
  rw [hs, List.getElem?_take] at hj
  split at hj
  ·rwa [List.getElem?_drop] at hj
  ·cases hj)) hu hd hi
theorem results_cell_mid {P : Program} {fn : Func} {p : Tmp} {ty : TypeId} (h : fn.results = #[.cell p ty]) (tmps : Array Value) (w : World) (b : Nat) (cs : List Value) (d : TypeDesc)
  (hp : tmps.getD p undef = .pointer (some ⟨b, 0, none⟩)) (hc : w.rangeAt b 0 cs) (hu : P.underlying ty = some d) (hd : d.isRow = true) (hi : (P.info? ty).map (·.size) = some cs.length) :
  (results fn tmps).run P w = .ok (.agg cs.toArray) w := by
 have hp' : tmps[p]?.getD undef = .pointer (some ⟨b, 0, none⟩) := by simpa using hp
 simp [results, h, hp', asAddr, run_loadVar_mid w b 0 ty cs d hc hu hd hi]
end Go.Proofs.Ytihgnnocagfdeaa
namespace Go.Proofs.Ytihgnnocagfdeaa.AK
open Go Go.RowKit
open Go.Proofs.Ytihgnnocagfdeaa.AS (edgesOk needsOk onceOk waits2 limOk allocsOk aOk Apart getD_flag)
variable {Rp Kp : World → World → Prop}
def storesOk (ops : Array Oper) (pt : List (List Nat)) (st : List Nat) (js : List (List Nat)) : Bool :=
 (List.range st.length).all fun m => decide (st.getD m 0 < ops.size) &&
  (Nat.beq m 0 || Region.waitsFor .any ops (st.getD m 0) (st.getD (m - 1) 0)) && (js.getD (m + 1) []).all fun d => (pt.getD (st.getD m 0) []).contains d || (js.getD m []).contains d || (match ops[st.getD m 0]? with | some o => o.dst == some d | none => false)
def lowOk (ops : Array Oper) (st ln : List Nat) : Bool :=
 (List.range ops.size).all fun i => Nat.beq (ln.getD i 0) 0 || (decide (ln.getD i 0 ≤ st.length) && waits2 ops i (st.getD (ln.getD i 0 - 1) 0))
def chk (al : List Nat) (ops : Array Oper) (pt : List (List Nat)) (ds st : List Nat) (js : List (List Nat)) (lm ln : List Nat) : Bool :=
 lowOk ops st ln && (allocsOk ops al st && al.all ds.contains && edgesOk ops && needsOk ops pt ds && onceOk ops && storesOk ops pt st js && limOk ops st lm && allWritten ops ds && (js.getD 0 []).isEmpty)
structure Chk (al : List Nat) (ops : Array Oper) (pt : List (List Nat)) (ds st : List Nat) (js : List (List Nat)) (lm ln : List Nat) : Prop where
 low : ∀ i, i < ops.size → ln.getD i 0 = 0 ∨ (ln.getD i 0 ≤ st.length ∧ waits2 ops i (st.getD (ln.getD i 0 - 1) 0) = true)
 edge : ∀ (i : Nat) (o : Oper), ops[i]? = some o → ∀ e ∈ o.after, Region.binds .any e = true → e.on < i
 dst : ∀ (i : Nat) (o : Oper), ops[i]? = some o → ∀ d, o.dst = some d → d ∈ ds
 need : ∀ (i : Nat) (o : Oper), ops[i]? = some o → ∀ d ∈ pt.getD i [], ∃ e ∈ o.after, Region.binds .any e = true ∧ ((∃ o' : Oper, ops[e.on]? = some o' ∧ o'.dst = some d) ∨ d ∈ pt.getD e.on [])
 once : ∀ (i j : Nat) (o o' : Oper) (d : Nat), ops[i]? = some o → ops[j]? = some o' → o.dst = some d → o'.dst = some d → i = j
 slt : ∀ m, m < st.length → st.getD m 0 < ops.size
 schain : ∀ m, 0 < m → m < st.length → Region.waitsFor .any ops (st.getD m 0) (st.getD (m - 1) 0) = true
 sjs : ∀ m, m < st.length → ∀ d ∈ js.getD (m + 1) [], d ∈ pt.getD (st.getD m 0) [] ∨ d ∈ js.getD m [] ∨ ∃ o : Oper, ops[st.getD m 0]? = some o ∧ o.dst = some d
 lim : ∀ i, i < ops.size → lm.getD i st.length = st.length ∨ waits2 ops (st.getD (lm.getD i st.length) ops.size) i = true
 wr : ∀ d ∈ ds, ∃ (i : Nat) (o : Oper), ops[i]? = some o ∧ o.dst = some d
 js0 : js.getD 0 [] = []
 alw : ∀ d ∈ al, ∀ m, m < st.length → ∃ (i : Nat) (o : Oper), ops[i]? = some o ∧ o.dst = some d ∧ waits2 ops (st.getD m 0) i = true
 ald : ∀ d ∈ al, d ∈ ds
section
variable {ops : Array Oper} {ds st lm ln al : List Nat} {js pt : List (List Nat)}
theorem chk_spec (h : chk al ops pt ds st js lm ln = true) : Chk al ops pt ds st js lm ln := by
 unfold chk at h
 simp only [Bool.and_eq_true] at h
 obtain ⟨h10, ⟨⟨⟨⟨⟨⟨⟨h8, h9⟩, h1⟩, h2⟩, h3⟩, h4⟩, h5⟩, h6⟩, h7⟩ := h
 have lt : ∀ (i : Nat) (o : Oper), ops[i]? = some o → i ∈ List.range ops.size := fun i o ho => List.mem_range.2 (Array.getElem?_eq_some_iff.1 ho).1
 constructor
 ·intro i hi
  have h := List.all_eq_true.1 h10 i (List.mem_range.2 hi)
  simp only [Bool.or_eq_true, Nat.beq_eq, Bool.and_eq_true, decide_eq_true_eq] at h
  exact h
 ·intro i o ho e he hb
  have h := List.all_eq_true.1 h1 i (lt i o ho)
  rw [ho] at h
  dsimp only at h
  rw [Array.all_eq_true_iff_forall_mem] at h
  have h := h e he
  rw [hb] at h
  simpa using h
 ·intro i o ho d hd
  have h := List.all_eq_true.1 h2 i (lt i o ho)
  rw [ho] at h
  dsimp only at h
  rw [hd] at h
  simp only [Bool.and_eq_true] at h
  simpa using h.1
 ·intro i o ho d hd
  have h := List.all_eq_true.1 h2 i (lt i o ho)
  rw [ho] at h
  simp only [Bool.and_eq_true] at h
  have h := List.all_eq_true.1 h.2 d hd
  rw [Array.any_eq_true] at h
  obtain ⟨k, hk, h⟩ := h
  rw [Bool.and_eq_true, Bool.or_eq_true] at h
  refine ⟨o.after[k], Array.getElem_mem _, h.1, ?_⟩
  rcases h.2 with h4 | h4
  ·left
   cases h5 : ops[(o.after[k]).on]? with
   | none => rw [h5] at h4; cases h4
   | some o' => rw [h5] at h4; exact ⟨o', rfl, by simpa using h4⟩
  ·right; simpa using h4
 ·intro i j o o' d ho ho' hd hd'
  have h := List.all_eq_true.1 (List.all_eq_true.1 h3 i (lt i o ho)) j (lt j o' ho')
  rw [ho, ho'] at h
  dsimp only at h
  rw [hd, hd'] at h
  simpa using h
 ·intro m hm
  have h := List.all_eq_true.1 h4 m (List.mem_range.2 hm)
  simp only [Bool.and_eq_true, decide_eq_true_eq] at h
  exact h.1.1
 ·intro m h0 hm
  have h := List.all_eq_true.1 h4 m (List.mem_range.2 hm)
  simp only [Bool.and_eq_true, decide_eq_true_eq, Bool.or_eq_true, Nat.beq_eq] at h
  rcases h.1.2 with h | h
  ·omega
  ·exact h
 ·intro m hm d hd
  have h := List.all_eq_true.1 h4 m (List.mem_range.2 hm)
  simp only [Bool.and_eq_true] at h
  have h := List.all_eq_true.1 h.2 d hd
  simp only [Bool.or_eq_true] at h
  rcases h with (h | h) | h
  ·exact .inl (by simpa using h)
  ·exact .inr (.inl (by simpa using h))
  ·cases ho : ops[st.getD m 0]? with
   | none => rw [ho] at h; cases h
   | some o => rw [ho] at h; exact .inr (.inr ⟨o, rfl, by simpa using h⟩)
 ·intro i hi
  have h := List.all_eq_true.1 h5 i (List.mem_range.2 hi)
  simp only [Bool.or_eq_true, Nat.beq_eq] at h
  exact h
 ·intro d hd
  have h := List.all_eq_true.1 h6 d hd
  rw [Array.any_eq_true] at h
  obtain ⟨k, hk, h⟩ := h
  exact ⟨k, ops[k], by simp [hk], by simpa using h⟩
 ·simpa using h7
 ·intro d hd m hm
  have h := List.all_eq_true.1 (List.all_eq_true.1 h8 d hd) (st.getD m 0) (by simp [hm])
  obtain ⟨i, hi, h⟩ := List.any_eq_true.1 h
  rw [Bool.and_eq_true] at h
  cases ho : ops[i]? with
  | none => rw [ho] at h; cases h.1
  | some o => rw [ho] at h; exact ⟨i, o, ho, by simpa using h.1, h.2⟩
 ·intro d hd
  have h := List.all_eq_true.1 h9 d hd
  simpa using h
end
open Go.Proofs.Ytihgnnocagfdeaa (fillL upd fillL_size fillL_get fillL_upd fillL_self filter_less none_listed put_fill)
structure Fact (Kp : World → World → Prop) where
 p : Value → World → Prop
 st : ∀ v w w', Kp w w' → p v w → p v w'
def Fact.triv : Fact Kp := ⟨fun _ _ => True, fun _ _ _ _ _ => trivial⟩
def Fact.is (x : Value) : Fact Kp := ⟨fun v _ => v = x, fun _ _ _ _ h => h⟩
def look : List (Nat × Fact Kp) → Nat → Fact Kp
 | [], _ => Fact.triv
 | (k, f) :: rest, d => bif Nat.beq k d then f else look rest d
def temps (FL : List (Nat × Fact Kp)) : List Nat := FL.map (·.1)
def factOf (FL : List (Nat × Fact Kp)) (dst : Option Nat) (v : Value) (w : World) : Prop := match dst with
 | none => True
 | some d => (look FL d).p v w
def Facts (FL : List (Nat × Fact Kp)) (u : Nat → Value) (w : World) : List Nat → Prop
 | [] => True
 | d :: ds => (look FL d).p (u d) w ∧ Facts FL u w ds
theorem facts_mk {FL : List (Nat × Fact Kp)} {u : Nat → Value} {w : World} {ds : List Nat} (h : ∀ d ∈ ds, (look FL d).p (u d) w) : Facts FL u w ds := by
 induction ds with
 | nil => trivial
 | cons d ds ih => exact ⟨h d (List.mem_cons_self ..), ih fun e he => h e (List.mem_cons_of_mem _ he)⟩
theorem facts_get {FL : List (Nat × Fact Kp)} {u : Nat → Value} {w : World} {ds : List Nat} (h : Facts FL u w ds) (d : Nat) (hd : d ∈ ds) : (look FL d).p (u d) w := by
 induction ds with
 | nil => cases hd
 | cons e ds ih =>
  rcases List.mem_cons.1 hd with rfl | hd
  ·exact h.1
  ·exact ih h.2 hd
section
variable {P : Program} {ops : Array Oper} {Q : Exit → Act → World → Prop} {FL : List (Nat × Fact Kp)} {J : Nat → List Value → World → Prop} {t0 : Array Value} {df : List Deferred} {ds : List Nat}
 {st lm ln al : List Nat} {js : List (List Nat)} {pt : List (List Nat)}
def StepOk (Rp : World → World → Prop) (al : List Nat) (P : Program) (ops : Array Oper) (Q : Exit → Act → World → Prop) (FL : List (Nat × Fact Kp)) (J : Nat → List Value → World → Prop) (js : List (List Nat)) (fr : (Nat → Value) → Array Value) (df : List Deferred) (o : Oper) (need : List Nat) (lim lo : Nat) : Prop :=
 ∀ (k : Nat) (u : Nat → Value) (w : World), k ≤ lim → lo ≤ k → J k ((js.getD k []).map u) w → Facts FL u w need → ∀ K : Act → World → Prop, Shut (∀ v w', Rp w w' → factOf FL o.dst v w' → aOk al o.dst v w w' → K ((⟨fr u, df⟩ : Act).put o.dst v) w') →
  if Region.wanted o (yielded ops (fr u)) = true then Oper.wp P o ⟨fr u, df⟩ w K Q else K ((⟨fr u, df⟩ : Act).put o.dst undef) w
def StoreOk (al : List Nat) (P : Program) (ops : Array Oper) (Q : Exit → Act → World → Prop) (FL : List (Nat × Fact Kp)) (J : Nat → List Value → World → Prop) (js : List (List Nat)) (fr : (Nat → Value) → Array Value) (df : List Deferred) (o : Oper) (need : List Nat) (k : Nat) : Prop :=
 ∀ (u : Nat → Value) (w : World), J k ((js.getD k []).map u) w → Apart al u → Facts FL u w need → ∀ K : Act → World → Prop, Shut (∀ v w', J (k + 1) ((js.getD (k + 1) []).map (upd u o.dst v)) w' → Kp w w' → factOf FL o.dst v w' → K ((⟨fr u, df⟩ : Act).put o.dst v) w') →
  if Region.wanted o (yielded ops (fr u)) = true then Oper.wp P o ⟨fr u, df⟩ w K Q else K ((⟨fr u, df⟩ : Act).put o.dst undef) w
def StepsOk (Rp : World → World → Prop) (al : List Nat) (P : Program) (ops : Array Oper) (Q : Exit → Act → World → Prop) (FL : List (Nat × Fact Kp)) (J : Nat → List Value → World → Prop) (js : List (List Nat)) (fr : (Nat → Value) → Array Value) (df : List Deferred) (pt : List (List Nat)) (st lm ln : List Nat) : List Oper → Nat → Prop
 | [], _ => True
 | o :: rest, i => (match st.idxOf? i with
   | some k => StoreOk al P ops Q FL J js fr df o (pt.getD i []) k
   | none => StepOk Rp al P ops Q FL J js fr df o (pt.getD i []) (lm.getD i st.length) (ln.getD i 0)) ∧ StepsOk Rp al P ops Q FL J js fr df pt st lm ln rest (i + 1)
theorem StepsOk.nil {fr : (Nat → Value) → Array Value} {i : Nat} : StepsOk Rp al P ops Q FL J js fr df pt st lm ln [] i := trivial
theorem sc {fr : (Nat → Value) → Array Value} {o : Oper} {rest : List Oper} {i : Nat} {need : List Nat} {lim lo : Nat} (h0 : st.idxOf? i = none) (h1 : pt.getD i [] = need) (h2 : lm.getD i st.length = lim) (h3 : ln.getD i 0 = lo)
  (h : StepOk Rp al P ops Q FL J js fr df o need lim lo) (hs : StepsOk Rp al P ops Q FL J js fr df pt st lm ln rest (i + 1)) : StepsOk Rp al P ops Q FL J js fr df pt st lm ln (o :: rest) i := ⟨by rw [h0, h1, h2, h3]; exact h, hs⟩
theorem ss {fr : (Nat → Value) → Array Value} {o : Oper} {rest : List Oper} {i k : Nat} {need : List Nat} (h0 : st.idxOf? i = some k) (h1 : pt.getD i [] = need)
  (h : StoreOk al P ops Q FL J js fr df o need k) (hs : StepsOk Rp al P ops Q FL J js fr df pt st lm ln rest (i + 1)) : StepsOk Rp al P ops Q FL J js fr df pt st lm ln (o :: rest) i := ⟨by rw [h0, h1]; exact h, hs⟩
theorem steps_at {fr : (Nat → Value) → Array Value} : ∀ (l : List Oper) (i0 : Nat), StepsOk Rp al P ops Q FL J js fr df pt st lm ln l i0 → ∀ i o, l[i]? = some o → (match st.idxOf? (i0 + i) with
      | some k => StoreOk al P ops Q FL J js fr df o (pt.getD (i0 + i) []) k
      | none => StepOk Rp al P ops Q FL J js fr df o (pt.getD (i0 + i) []) (lm.getD (i0 + i) st.length) (ln.getD (i0 + i) 0)) := by
  intro l
  induction l with
  | nil => intro i0 _ i o h; simp at h
  | cons x l ih =>
    intro i0 hs i o h
    cases i with
    | zero => simp at h; subst h; exact hs.1
    | succ i =>
      have := ih (i0 + 1) hs.2 i o (by simpa using h)
      rwa [show i0 + 1 + i = i0 + (i + 1) by omega] at this
structure Inv (al : List Nat) (ops : Array Oper) (FL : List (Nat × Fact Kp)) (J : Nat → List Value → World → Prop) (js : List (List Nat)) (t0 : Array Value) (df : List Deferred) (ds : List Nat) (pt : List (List Nat)) (st : List Nat) (listed : Array Bool) (a : Act) (w : World) : Prop where
 fr : ∃ k u, a = ⟨fillL u ds t0, df⟩ ∧ (∀ d, Written ops listed d → (look FL d).p (u d) w) ∧ J k ((js.getD k []).map u) w ∧ k ≤ st.length ∧ (∀ m, m < k → listed.getD (st.getD m 0) false = true) ∧
  (∀ m, k ≤ m → m < st.length → listed.getD (st.getD m 0) false = false) ∧ (∀ d ∈ js.getD k [], Written ops listed d) ∧ (∀ d ∈ al, Written ops listed d → ∃ g, u d = .pointer (some ⟨g, 0, none⟩) ∧ g < w.heap.size) ∧
  (∀ d ∈ al, ∀ d' ∈ al, d ≠ d' → Written ops listed d → Written ops listed d' → u d ≠ u d')
 cl : ∀ i, listed.getD i false = true → ∀ d ∈ pt.getD i [], Written ops listed d
 cs : ∀ j oj, ops[j]? = some oj → listed.getD j false = true → ∀ e ∈ oj.after, Region.binds .any e = true → listed.getD e.on false = true
 sz : listed.size = ops.size
theorem inv_step (hc : Chk al ops pt ds st js lm ln) (hsz : ∀ w w' : World, Kp w w' → w.heap.size ≤ w'.heap.size) (hrk : ∀ w w' : World, Rp w w' → Kp w w') (hst : ∀ k l w w', Rp w w' → J k l w → J k l w') (hs : StepsOk Rp al P ops Q FL J js (fun u => fillL u ds t0) df pt st lm ln ops.toList 0) {listed : Array Bool} {a : Act} {w : World}
    (hI : Inv al ops FL J js t0 df ds pt st listed a w) {i : Nat} (hi : i ∈ Region.ready .any ops listed) :
    wpOp P ops Q i (Inv al ops FL J js t0 df ds pt st (listed.setIfInBounds i true)) a w := by
  obtain ⟨h0, o, ho, hall⟩ := mem_ready.1 hi
  have hlt : i < ops.size := (Array.getElem?_eq_some_iff.1 ho).1
  have hil : i < listed.size := by rw [hI.sz]; exact hlt
  have hun : listed.getD i false = false := by rw [← getD_flag hil]; exact h0
  obtain ⟨k, u, rfl, hfac, hJ, hk, hk1, hk2, hk3, hk4, hk5⟩ := hI.fr
  have hneed : ∀ d ∈ pt.getD i [], Written ops listed d := by
    intro d hd
    obtain ⟨e, he, hb, h1⟩ := hc.need i o ho d hd
    have h2 := hall e he hb
    rcases h1 with ⟨o', h3, h4⟩ | h3
    · exact ⟨e.on, o', h2, h3, h4⟩
    · exact hI.cl e.on h2 d h3
  have hstep := steps_at _ _ hs i o (by simpa using ho)
  rw [Nat.zero_add] at hstep
  have hcs : ∀ j oj, ops[j]? = some oj → (listed.setIfInBounds i true).getD j false = true → ∀ e ∈ oj.after, Region.binds .any e = true → (listed.setIfInBounds i true).getD e.on false = true := by
    intro j oj hj hl e he hb
    by_cases hij : i = j
    · subst hij
      have : oj = o := Option.some.inj (hj.symm.trans ho)
      subst this
      exact getD_set_true (hall e he hb)
    · rw [getD_set_ne false hij] at hl
      exact getD_set_true (hI.cs j oj hj hl e he hb)
  have hcl : ∀ j, (listed.setIfInBounds i true).getD j false = true → ∀ d ∈ pt.getD j [], Written ops (listed.setIfInBounds i true) d := by
    intro j hj d hd
    by_cases hij : i = j
    · subst hij; exact (hneed d hd).more
    · rw [getD_set_ne false hij] at hj
      exact (hI.cl j hj d hd).more
  have hwait : ∀ m, m < k → ∀ j, Region.waitsFor .any ops (st.getD m 0) j = true → listed.getD j false = true := by
    intro m hm j hw
    obtain ⟨oj, hoj, e, he, hb, hon⟩ := Region.waitsFor_spec hw
    rw [← hon]
    exact hI.cs _ oj hoj (hk1 m hm) e he hb
  have hwait2 : ∀ m, m < k → ∀ j, waits2 ops (st.getD m 0) j = true → listed.getD j false = true := by
    intro m hm j hw
    unfold waits2 at hw
    rw [Bool.or_eq_true] at hw
    rcases hw with hw | hw
    · exact hwait m hm j hw
    · obtain ⟨x, -, hx⟩ := List.any_eq_true.1 hw
      rw [Bool.and_eq_true] at hx
      obtain ⟨oj, hoj, e, he, hb, hon⟩ := Region.waitsFor_spec hx.2
      rw [← hon]
      exact hI.cs _ oj hoj (hwait m hm x hx.1) e he hb
  cases hsi : st.idxOf? i with
  | none =>
    rw [hsi] at hstep
    have hns : ∀ m, m < st.length → st.getD m 0 ≠ i := by
      intro m hm e
      have h1 : i ∈ st := by rw [← e]; simp [hm]
      have h2 := List.idxOf?_eq_none_iff.1 hsi
      exact h2 h1
    have hlim : k ≤ lm.getD i st.length := by
      rcases hc.lim i hlt with h1 | h1
      · omega
      · rcases Nat.lt_or_ge (lm.getD i st.length) k with h2 | h2
        · exfalso
          have h3 := hwait2 _ h2 i (by
            have e : st.getD (lm.getD i st.length) ops.size = st.getD (lm.getD i st.length) 0 := by
              have : lm.getD i st.length < st.length := by omega
              generalize lm.getD i st.length = z at *
              simp [this]
            rw [← e]; exact h1)
          rw [hun] at h3; cases h3
        · exact h2
    have hlow : ln.getD i 0 ≤ k := by
      rcases hc.low i hlt with h1 | ⟨h0, h1⟩
      · omega
      · rcases Nat.lt_or_ge k (ln.getD i 0) with h2 | h2
        · exfalso
          have h3 : listed.getD (st.getD (ln.getD i 0 - 1) 0) false = true := by
            unfold waits2 at h1
            rw [Bool.or_eq_true] at h1
            rcases h1 with h1 | h1
            · obtain ⟨oj, hoj, e, he, hb, hon⟩ := Region.waitsFor_spec h1
              have : oj = o := Option.some.inj (hoj.symm.trans ho)
              subst this
              rw [← hon]; exact hall e he hb
            · obtain ⟨x, -, hx⟩ := List.any_eq_true.1 h1
              rw [Bool.and_eq_true] at hx
              obtain ⟨oj, hoj, e, he, hb, hon⟩ := Region.waitsFor_spec hx.1
              have : oj = o := Option.some.inj (hoj.symm.trans ho)
              subst this
              have h4 := hall e he hb
              rw [hon] at h4
              obtain ⟨oj2, hoj2, e2, he2, hb2, hon2⟩ := Region.waitsFor_spec hx.2
              rw [← hon2]
              exact hI.cs _ oj2 hoj2 h4 e2 he2 hb2
          rw [hk2 (ln.getD i 0 - 1) (by omega) (by omega)] at h3
          cases h3
        · exact h2
    refine wpOp_step ho (fun K' hK => hstep k u w hlim hlow hJ (facts_mk fun d hd => hfac d (hneed d hd)) K' ?_)
    intro v w' hb hf hao
    have hwi : ∀ d, Written ops (listed.setIfInBounds i true) d → o.dst = some d ∨ Written ops listed d := by
      rintro d ⟨j, o', h1, h2, h3⟩
      by_cases hij : i = j
      · subst hij
        rw [ho] at h2
        injection h2 with h2
        subst h2
        exact .inl h3
      · rw [getD_set_ne false hij] at h1
        exact .inr ⟨j, o', h1, h2, h3⟩
    have hnw : ∀ d, o.dst = some d → ¬ Written ops listed d := by
      rintro d hd ⟨j, o', h1, h2, h3⟩
      have := hc.once i j o o' d ho h2 hd h3
      subst this
      rw [hun] at h1; cases h1
    have hne : ∀ d, o.dst ≠ some d → upd u o.dst v d = u d := by
      intro d hd
      cases h : o.dst with
      | none => rfl
      | some d' => rw [h] at hd; simp only [upd]; rw [if_neg (fun h => hd (by rw [h]))]
    have hal : ∀ d ∈ al, o.dst = some d → v = .pointer (some ⟨w.heap.size, 0, none⟩) ∧ w.heap.size < w'.heap.size := by
      intro d hd h
      unfold aOk at hao
      rw [h] at hao
      dsimp only at hao
      rw [show al.contains d = true by simpa using hd] at hao
      exact hao
    refine hK _ _ ⟨⟨k, upd u o.dst v, put_fill u o v (hc.dst i o ho), ?_, ?_, hk, fun m hm => getD_set_true (hk1 m hm), fun m hm hm' => ?_, fun d hd => (hk3 d hd).more, fun d hd hw => ?_, fun d hd d' hd' hdd hw hw' => ?_⟩, hcl, hcs, by simpa using hI.sz⟩
    · rintro d ⟨j, o', h1, h2, h3⟩
      by_cases hd : o.dst = some d
      · rw [hd] at hf ⊢
        have e : upd u (some d) v d = v := by simp [upd]
        rw [e]; exact hf
      · have hw : Written ops listed d := by
          by_cases hij : i = j
          · subst hij
            rw [ho] at h2
            injection h2 with h2
            subst h2
            exact absurd h3 hd
          · rw [getD_set_ne false hij] at h1
            exact ⟨j, o', h1, h2, h3⟩
        have e : upd u o.dst v d = u d := by
          cases h : o.dst with
          | none => rfl
          | some d' => rw [h] at hd; simp only [upd]; rw [if_neg (fun h => hd (by rw [h]))]
        rw [e]
        exact (look FL d).st _ _ _ (hrk _ _ hb) (hfac d hw)
    · have e : (js.getD k []).map (upd u o.dst v) = (js.getD k []).map u := by
        apply List.map_congr_left
        intro d hd
        cases h : o.dst with
        | none => rfl
        | some d' =>
          simp only [upd]
          rw [if_neg]
          rintro rfl
          obtain ⟨j, o', h1, h2, h3⟩ := hk3 d hd
          have := hc.once i j o o' d ho h2 h h3
          subst this
          rw [hun] at h1; cases h1
      rw [e]
      exact hst _ _ _ _ hb hJ
    · rw [getD_set_ne false (Ne.symm (hns m hm'))]; exact hk2 m hm hm'
    · by_cases h : o.dst = some d
      · obtain ⟨h1, h2⟩ := hal d hd h
        exact ⟨w.heap.size, by rw [h]; simp [upd, h1], h2⟩
      · rcases hwi d hw with h1 | h1
        · exact absurd h1 h
        · obtain ⟨g, h2, h3⟩ := hk4 d hd h1
          exact ⟨g, by rw [hne d h]; exact h2, Nat.lt_of_lt_of_le h3 (hsz _ _ (hrk _ _ hb))⟩
    · by_cases h : o.dst = some d
      · have h' : o.dst ≠ some d' := fun h2 => hdd (by rw [h] at h2; injection h2)
        rcases hwi d' hw' with h1 | h1
        · exact absurd h1 h'
        · obtain ⟨g, h2, h3⟩ := hk4 d' hd' h1
          rw [hne d' h', h2, h]
          simp only [upd, if_pos]
          rw [(hal d hd h).1]
          intro he
          simp at he <;> omega
      · rcases hwi d hw with h1 | h1
        · exact absurd h1 h
        · by_cases h' : o.dst = some d'
          · obtain ⟨g, h2, h3⟩ := hk4 d hd h1
            rw [hne d h, h2, h']
            simp only [upd, if_pos]
            rw [(hal d' hd' h').1]
            intro he
            simp at he <;> omega
          · rcases hwi d' hw' with h2 | h2
            · exact absurd h2 h'
            · rw [hne d h, hne d' h']; exact hk5 d hd d' hd' hdd h1 h2
  | some m =>
    rw [hsi] at hstep
    obtain ⟨hm, hmi, -⟩ := List.idxOf?_eq_some_iff.1 hsi
    have hmi' : st.getD m 0 = i := by simp [hm]; exact hmi
    have hmk : m = k := by
      rcases Nat.lt_trichotomy m k with h1 | h1 | h1
      · have := hk1 m h1; rw [hmi', hun] at this; cases this
      · exact h1
      · exfalso
        have h2 := hc.schain m (by omega) hm
        rw [hmi'] at h2
        obtain ⟨oj, hoj, e, he, hb, hon⟩ := Region.waitsFor_spec h2
        have : oj = o := Option.some.inj (hoj.symm.trans ho)
        subst this
        have h3 := hall e he hb
        rw [hon, hk2 (m - 1) (by omega) (by omega)] at h3
        cases h3
    subst hmk
    have hwal : ∀ d ∈ al, Written ops listed d := by
      intro d hd
      obtain ⟨j, o', h1, h2, h3⟩ := hc.alw d hd m hm
      rw [hmi'] at h3
      refine ⟨j, o', ?_, h1, h2⟩
      unfold waits2 at h3
      rw [Bool.or_eq_true] at h3
      rcases h3 with h3 | h3
      · obtain ⟨oj, hoj, e, he, hb, hon⟩ := Region.waitsFor_spec h3
        have : oj = o := Option.some.inj (hoj.symm.trans ho)
        subst this
        rw [← hon]; exact hall e he hb
      · obtain ⟨x, -, hx⟩ := List.any_eq_true.1 h3
        rw [Bool.and_eq_true] at hx
        obtain ⟨oj, hoj, e, he, hb, hon⟩ := Region.waitsFor_spec hx.1
        have : oj = o := Option.some.inj (hoj.symm.trans ho)
        subst this
        have h4 := hall e he hb
        rw [hon] at h4
        obtain ⟨oj2, hoj2, e2, he2, hb2, hon2⟩ := Region.waitsFor_spec hx.2
        rw [← hon2]
        exact hI.cs _ oj2 hoj2 h4 e2 he2 hb2
    refine wpOp_step ho (fun K' hK => hstep u w hJ (fun d hd d' hd' hdd => hk5 d hd d' hd' hdd (hwal d hd) (hwal d' hd')) (facts_mk fun d hd => hfac d (hneed d hd)) K' ?_)
    intro v w' hJ' hb hf
    have hnw : ∀ d, o.dst = some d → ¬ Written ops listed d := by
      rintro d hd ⟨j, o', h1, h2, h3⟩
      have := hc.once i j o o' d ho h2 hd h3
      subst this
      rw [hun] at h1; cases h1
    have hne : ∀ d, o.dst ≠ some d → upd u o.dst v d = u d := by
      intro d hd
      cases h : o.dst with
      | none => rfl
      | some d' => rw [h] at hd; simp only [upd]; rw [if_neg (fun h => hd (by rw [h]))]
    have hnl : ∀ d ∈ al, o.dst ≠ some d := fun d hd h => hnw d h (hwal d hd)
    refine hK _ _ ⟨⟨m + 1, upd u o.dst v, put_fill u o v (hc.dst i o ho), ?_, hJ', hm, fun j hj => ?_, fun j hj hj' => ?_, fun d hd => ?_, fun d hd hw => ?_, fun d hd d' hd' hdd hw hw' => by rw [hne d (hnl d hd), hne d' (hnl d' hd')]; exact hk5 d hd d' hd' hdd (hwal d hd) (hwal d' hd')⟩, hcl, hcs, by simpa using hI.sz⟩
    · rintro d ⟨j, o', h1, h2, h3⟩
      by_cases hd : o.dst = some d
      · rw [hd] at hf ⊢
        have e : upd u (some d) v d = v := by simp [upd]
        rw [e]; exact hf
      · have hw : Written ops listed d := by
          by_cases hij : i = j
          · subst hij
            rw [ho] at h2
            injection h2 with h2
            subst h2
            exact absurd h3 hd
          · rw [getD_set_ne false hij] at h1
            exact ⟨j, o', h1, h2, h3⟩
        rw [hne d hd]
        exact (look FL d).st _ _ _ hb (hfac d hw)
    · by_cases h1 : j = m
      · subst h1; rw [hmi']; simp [hil]
      · exact getD_set_true (hk1 j (by omega))
    · have h1 := hk2 j (by omega) hj'
      by_cases h2 : st.getD j 0 = i
      · exfalso
        have h3 : ∀ n, m ≤ n → n < st.length → i ≤ st.getD n 0 ∧ (m < n → i < st.getD n 0) := by
          intro n
          induction n with
          | zero => intro h4 h5; exact ⟨by have : m = 0 := by omega
                                           subst this; rw [hmi']; exact Nat.le_refl _, fun h => by omega⟩
          | succ n ih =>
            intro h4 h5
            by_cases h6 : m = n + 1
            · subst h6; exact ⟨by rw [hmi']; exact Nat.le_refl _, fun h => by omega⟩
            · have h7 := ih (by omega) (by omega)
              have h8 := hc.schain (n + 1) (by omega) h5
              obtain ⟨oj, hoj, e, he, hb', hon⟩ := Region.waitsFor_spec h8
              have h9 := hc.edge _ oj hoj e he hb'
              rw [hon, Nat.add_sub_cancel] at h9
              exact ⟨by omega, fun _ => by omega⟩
        have := (h3 j (by omega) hj').2 (by omega)
        omega
      · rw [getD_set_ne false (Ne.symm h2)]; exact h1
    · rcases hc.sjs m hm d hd with h1 | h1
      · rw [hmi'] at h1; exact (hneed d h1).more
      · rcases h1 with h1 | ⟨o2, h1, h2⟩
        · exact (hk3 d h1).more
        · rw [hmi'] at h1
          exact ⟨i, o2, by simp [hil], h1, h2⟩
    · obtain ⟨g, h1, h2⟩ := hk4 d hd (hwal d hd)
      exact ⟨g, by rw [hne d (hnl d hd)]; exact h1, Nat.lt_of_lt_of_le h2 (hsz _ _ hb)⟩
theorem ready_nil_all (hc : Chk al ops pt ds st js lm ln) {listed : Array Bool} (hsz : listed.size = ops.size) (hr : Region.ready .any ops listed = []) : ∀ n i, i < n → i < ops.size → listed.getD i false = true := by
 intro n
 induction n with
 | zero => intro i h; omega
 | succ n ih =>
  intro i hin hi
  have hil : i < listed.size := by omega
  cases hv : listed.getD i false with
  | true => rfl
  | false =>
   exfalso
   have ho : ops[i]? = some ops[i] := by simp [hi]
   have : i ∈ Region.ready .any ops listed := by
    rw [mem_ready]
    refine ⟨by simp [hil] at hv ⊢; exact hv, _, ho, fun e he hb => ?_⟩
    have h1 := hc.edge i _ ho e he hb
    exact ih e.on (by omega) (by omega)
   rw [hr] at this
   cases this
theorem wpAny_inv (hc : Chk al ops pt ds st js lm ln) (hsz : ∀ w w' : World, Kp w w' → w.heap.size ≤ w'.heap.size) (hrk : ∀ w w' : World, Rp w w' → Kp w w') (hst : ∀ k l w w', Rp w w' → J k l w → J k l w') (hs : StepsOk Rp al P ops Q FL J js (fun u => fillL u ds t0) df pt st lm ln ops.toList 0)
  (hend : ∀ u w, J st.length ((js.getD st.length []).map u) w → Facts FL u w ds → Q .normal ⟨fillL u ds t0, df⟩ w) :
  ∀ (fuel : Nat) (listed : Array Bool) (a : Act) (w : World), ((List.range ops.size).filter fun j => !listed.getD j true).length ≤ fuel → Inv al ops FL J js t0 df ds pt st listed a w → wpAny P .any ops Q fuel listed a w := by
 have hfin : ∀ (listed : Array Bool) (a : Act) (w : World), Inv al ops FL J js t0 df ds pt st listed a w → Region.ready .any ops listed = [] → Q .normal a w := by
  intro listed a w hI hr
  obtain ⟨k, u, rfl, hfac, hJ, hk, hk1, hk2, hk3, hk4, hk5⟩ := hI.fr
  have hall := Go.Proofs.Ytihgnnocagfdeaa.AK.ready_nil_all hc hI.sz hr
  have hkl : k = st.length := by
   rcases Nat.lt_or_ge k st.length with h | h
   ·have h1 := hk2 k (Nat.le_refl _) h
    rw [hall (st.getD k 0 + 1) _ (by omega) (hc.slt k h)] at h1
    cases h1
   ·omega
  subst hkl
  refine hend u w hJ (facts_mk fun d hd => hfac d ?_)
  obtain ⟨i, o, h1, h2⟩ := hc.wr d hd
  exact ⟨i, o, hall (i + 1) i (by omega) (Array.getElem?_eq_some_iff.1 h1).1, h1, h2⟩
 intro fuel
 induction fuel with
 | zero =>
  intro listed a w hcnt hI
  have hr : Region.ready .any ops listed = [] := by
   rw [List.eq_nil_iff_forall_not_mem]
   intro j hj
   obtain ⟨h0, o, ho, -⟩ := mem_ready.1 hj
   have hlt : j < ops.size := (Array.getElem?_eq_some_iff.1 ho).1
   have hm : j ∈ (List.range ops.size).filter fun j => !listed.getD j true := by
    rw [List.mem_filter]
    exact ⟨List.mem_range.2 hlt, by rw [h0]; rfl⟩
   have := List.length_pos_of_mem hm
   omega
  exact ⟨hr, hfin _ _ _ hI hr⟩
 | succ fuel ih =>
  intro listed a w hcnt hI
  refine ⟨fun hr => hfin _ _ _ hI hr, fun i hi => ?_⟩
  obtain ⟨h0, o, ho, -⟩ := mem_ready.1 hi
  have hlt : i < ops.size := (Array.getElem?_eq_some_iff.1 ho).1
  refine wpOp_mono (fun a' w' hI' => ih _ a' w' ?_ hI') (inv_step hc hsz hrk hst hs hI hi)
  have := filter_less (p := fun j => !listed.getD j true) (q := fun j => !(listed.setIfInBounds i true).getD j true) (i := i) (by simp only [h0]; rfl) (by
   have hil : i < listed.size := by rw [hI.sz]; exact hlt
   simp [hil]) (fun j hj => by
   by_cases hij : i = j
   ·subst hij
    exfalso
    have hil : i < listed.size := by rw [hI.sz]; exact hlt
    simp [hil] at hj
   ·rw [getD_set_ne true hij] at hj; exact hj) (List.range ops.size) (List.mem_range.2 hlt)
  omega
theorem region_facts {id : Nat} {w : World} {opl : List Oper} (FL : List (Nat × Fact Kp)) (J : Nat → List Value → World → Prop) (pt : List (List Nat)) (st : List Nat) (js : List (List Nat)) (lm ln : List Nat) (al : List Nat) {fr : (Nat → Value) → Array Value} (hfr : ∀ u, fillL u (temps FL) t0 = fr u)
  (hm : P.follows .mixedOrders = true) (hchk : chk al opl.toArray pt (temps FL) st js lm ln = true) (hsz : ∀ w w' : World, Kp w w' → w.heap.size ≤ w'.heap.size) (hrk : ∀ w w' : World, Rp w w' → Kp w w') (hst : ∀ k l w w', Rp w w' → J k l w → J k l w') (hJ : J 0 [] w.drew)
  (hs : StepsOk Rp al P opl.toArray Q FL J js fr df pt st lm ln opl 0)
  (hend : ∀ u w, J st.length ((js.getD st.length []).map u) w → Facts FL u w (temps FL) → Q .normal ⟨fr u, df⟩ w) : (Code.region id opl.toArray true).wp P Q ⟨t0, df⟩ w := by
 obtain rfl : (fun u => fillL u (temps FL) t0) = fr := funext hfr
 have hc := chk_spec hchk
 refine wp_region_any hm (wpAny_inv (t0 := t0) hc hsz hrk hst hs hend opl.toArray.size _ _ _ ?_ ⟨⟨0, fun d => t0.getD d undef, by rw [fillL_self], ?_, by rw [hc.js0]; exact hJ, Nat.zero_le _, fun m h => by omega, fun m _ _ => none_listed _ _, fun d hd => (by rw [hc.js0] at hd; cases hd), fun d _ hw => (by obtain ⟨j, o', h1, _, _⟩ := hw; rw [none_listed] at h1; cases h1), fun d _ d' _ _ hw => by obtain ⟨j, o', h1, _, _⟩ := hw; rw [none_listed] at h1; cases h1⟩, ?_, ?_, by simp⟩)
 ·exact Nat.le_trans (List.length_filter_le _ _) (by simp)
 ·rintro d ⟨j, o', h1, -, -⟩
  rw [none_listed] at h1; cases h1
 ·intro i hi
  rw [none_listed] at hi; cases hi
 ·intro j oj _ hl
  rw [none_listed] at hl; cases hl
end
end Go.Proofs.Ytihgnnocagfdeaa.AK
namespace Go.Proofs.Ytihgnnocagfdeaa
open Go.RowKit
abbrev Below0 (w w' : World) : Prop := Below w.heap.size w w'
abbrev SizeUp (w w' : World) : Prop := w.heap.size ≤ w'.heap.size
structure Only (S : Nat → Prop) (w w' : World) : Prop where
 os : w'.os = w.os
 tape : w'.tape = w.tape
 output : w'.output = w.output
 size : w.heap.size ≤ w'.heap.size
 blk : ∀ k, k < w.heap.size → ¬ S k → w'.heap[k]? = w.heap[k]?
section
variable {S T : Nat → Prop} {w w' w2 : World} {B b : Nat}
theorem Only.refl (w : World) : Only S w w := ⟨rfl, rfl, rfl, Nat.le_refl _, fun _ _ _ => rfl⟩
theorem Only.trans (h : Only S w w') (k : Only S w' w2) : Only S w w2 :=
 ⟨k.os.trans h.os, k.tape.trans h.tape, k.output.trans h.output, Nat.le_trans h.size k.size, fun i hi hs => (k.blk i (Nat.lt_of_lt_of_le hi h.size) hs).trans (h.blk i hi hs)⟩
theorem Only.of (h : Below w.heap.size w w') : Only S w w' := ⟨h.os, h.tape, h.output, h.size, fun k hk _ => h.block k hk⟩
theorem Only.drew (h : Only S w w') : Only S w w'.drew := ⟨h.os, h.tape, h.output, h.size, h.blk⟩
theorem Only.wide (h : Only S w w') (hST : ∀ k, k < w.heap.size → S k → T k) : Only T w w' := ⟨h.os, h.tape, h.output, h.size, fun k hk hs => h.blk k hk fun h2 => hs (hST k hk h2)⟩
theorem Only.setCell (w : World) {a : Addr} (ha : S a.block) (v : Value) : Only S w (w.setCell a v) :=
 ⟨rfl, rfl, rfl, by simp [World.setCell], fun k _ hs => Below.heap_setCell _ _ _ _ (fun e => hs (e ▸ ha))⟩
theorem Only.setCells {b : Nat} (hb : S b) : ∀ (vs : List Value) (o : Nat) (w : World), Only S w (w.setCells b o vs)
 | [], _, w => Only.refl w
 | v :: r, o, w => by
  rw [World.setCells]
  exact (Only.setCell w (a := ⟨b, o, none⟩) hb v).trans (Only.setCells hb r (o + 1) _)
theorem Only.grown {row : Option Nat} (h : w.grownBy w' row) (hr : ∀ k, row = some k → S k) : Only S w w' :=
 ⟨h.os, h.tape, h.output, h.size, fun k hk hs => h.block k hk (fun e => hs (hr k e.symm))⟩
theorem Only.below (h : Only S w w') (hS : ∀ k, S k → B ≤ k) (hB : B ≤ w.heap.size) : Below B w w' :=
 ⟨h.os, h.tape, h.output, h.size, fun k hk => h.blk k (by omega) (fun hs => by have := hS k hs; omega)⟩
theorem Only.none (h : Only (fun _ => False) w w') : Below w.heap.size w w' := ⟨h.os, h.tape, h.output, h.size, fun k hk => h.blk k hk id⟩
end
structure Wh (t : TypeId) (w : World) (b : Nat) (cs : List Value) : Prop where
 blk : w.heap[b]? = some (.cells cs.toArray t (0, 0))
section
variable {t : TypeId} {w w' : World} {b : Nat} {cs : List Value}
theorem Wh.lt (h : Wh t w b cs) : b < w.heap.size := by
 rcases Nat.lt_or_ge b w.heap.size with hlt | hge
 ·exact hlt
 ·have := h.blk; rw [Array.getElem?_eq_none hge] at this; cases this
theorem Wh.cell (h : Wh t w b cs) (i : Nat) : w.cell? ⟨b, i, none⟩ = cs[i]? := by simp [World.cell?, h.blk]
theorem Wh.at (h : Wh t w b cs) (i : Nat) (v : Value) (hv : cs[i]? = some v) : w.cell? ⟨b, i, none⟩ = some v := (h.cell i).trans hv
theorem Wh.frozen (h : Wh t w b cs) (i : Nat) : w.frozen? ⟨b, i, none⟩ = false := by simp [World.frozen?, h.blk]
theorem Wh.rg (h : Wh t w b cs) : Rg w b cs := ⟨fun j v hj => h.at j v hj, h.lt⟩
theorem Wh.range (h : Wh t w b cs) : w.rangeAt b 0 cs := fun j v hv => by rw [Nat.zero_add]; exact h.at j v hv
theorem Wh.there (h : Wh t w b cs) {o n : Nat} (hn : o + n ≤ cs.length) : w.there b o n := fun j hj => by
 constructor
 ·rw [h.cell, List.getElem?_eq_getElem (by omega)]; rfl
 ·exact h.frozen _
theorem Wh.same (h : Wh t w b cs) (hk : w'.heap[b]? = w.heap[b]?) : Wh t w' b cs := ⟨hk.trans h.blk⟩
theorem Wh.up (h : Wh t w b cs) (hb : Below w.heap.size w w') : Wh t w' b cs := h.same (hb.block b h.lt)
theorem Wh.only {S : Nat → Prop} (h : Wh t w b cs) (hb : Only S w w') (hs : ¬ S b) : Wh t w' b cs := h.same (hb.blk b h.lt hs)
theorem Wh.new (w : World) (t : TypeId) (cs : List Value) : Wh t (w.alloc (.cells cs.toArray t)) w.heap.size cs := ⟨heap_alloc_new w _⟩
theorem Wh.set (h : Wh t w b cs) (i : Nat) (v : Value) : Wh t (w.setCell ⟨b, i, none⟩ v) b (cs.set i v) := by
 refine ⟨?_⟩
 simp [World.setCell, Array.getElem?_modify, h.blk]
theorem Wh.sets : ∀ (vs : List Value) {w : World} {xs ys zs : List Value}, Wh t w b (xs ++ ys ++ zs) → vs.length = ys.length → Wh t (w.setCells b xs.length vs) b (xs ++ vs ++ zs)
 | [], w, xs, ys, zs, h, hl => by
  obtain rfl : ys = [] := List.eq_nil_of_length_eq_zero hl.symm
  exact h
 | v :: vs, w, xs, [], zs, h, hl => by simp at hl
 | v :: vs, w, xs, y :: ys, zs, h, hl => by
  rw [World.setCells]
  have h1 := h.set xs.length v
  have e1 : (xs ++ (y :: ys) ++ zs).set xs.length v = (xs ++ [v]) ++ ys ++ zs := by simp
  rw [e1] at h1
  have h2 := Wh.sets vs h1 (by simpa using hl)
  have e2 : (xs ++ [v]).length = xs.length + 1 := by simp
  rw [e2] at h2
  simpa using h2
theorem Wh.put (h : Wh t w b cs) (vs : List Value) (hl : vs.length = cs.length) : Wh t (w.setCells b 0 vs) b vs := by
 have h1 := Wh.sets (xs := []) (ys := cs) (zs := []) vs (by simpa using h) hl
 simpa using h1
end
theorem wp_build_is {P : Program} {o : Oper} {a : Act} {w : World} {K : Act → World → Prop} {Q : Exit → Act → World → Prop} (ty : TypeId) (ps : Array (Nat × Operand)) (hop : o.op = .build ty ps) (L : List (Nat × Value)) (hL : (ps.toList.map fun p => (p.1, a.eval p.2)) = L) (V : Value)
  (hl : (Instr.build ty L.toArray).run P w = .ok V w) (h : K (a.put o.dst V) w) : o.wp P a w K Q := by
 have he : (ps.map fun p => (p.1, a.eval p.2)) = L.toArray := by rw [← hL]; exact Array.ext' (by rw [Array.toList_map])
 have hl2 : (Instr.build ty (ps.map fun x => match x with | (i, x) => (i, a.eval x))).run P w = .ok V w := by
  rw [← he] at hl; exact hl
 unfold Oper.wp execOp
 simp only [hop, Sem.run_bind, hl2, Sem.run_pure, Result.andThen_ok]
 exact h
theorem wpList_store_wh {P : Program} {ops : Array Oper} {rest : List Oper} {o : Oper} {a : Act} {w : World} {Q : Exit → Act → World → Prop} (hg : o.guard = none) (ty : TypeId) (x y : Operand) (hop : o.op = .store ty x y)
  (b : Nat) (hx : a.eval x = .pointer (some ⟨b, 0, none⟩)) (t : TypeId) (cs vs : List Value) (hy : a.eval y = .agg vs.toArray) (hw : Wh t w b cs) (hl : vs.length = cs.length)
  (hi : (P.info? ty).map (·.size) = some vs.toArray.size) (h1 : vs.toArray.all (·.oneCell') = true)
  (h : ∀ W, Hid (Wh t W b vs) → Hid (Only (fun k => k = b) w W) → W.heap.size = w.heap.size → wpList P ops Q rest (a.put o.dst undef) W) : wpList P ops Q (o :: rest) a w :=
 wpList_store_mid hg ty x y hop b 0 vs.toArray hx hy (hw.there (by simp [hl])) hi h1 (h _ (Lib.hid (hw.put vs hl)) (Lib.hid (Only.setCells (S := fun k => k = b) rfl vs 0 w)) (by
  have : ∀ (vs : List Value) (o : Nat) (w : World), (w.setCells b o vs).heap.size = w.heap.size := by
   intro vs
   induction vs with
   | nil => intro o w; rfl
   | cons v r ih => intro o w; rw [World.setCells, ih]; exact World.size_setCell _ _ _
  exact this _ _ _))
open Go.RowKit Go.Maps Go.ChangeMaps
abbrev heldP : Value → Option (DataW Value × List MemPlace) := fun v => some (.held v, [])
section
variable {w w' : World} {b n m : Nat} {f : Int × Int → Option Int}
end
open Go.RowKit Go.Maps
abbrev keyV (k : RK) : Value := .agg #[.string k.1, .int .i64 k.2.1, .int .i64 k.2.2]
def okR (k : RK) : Prop := k.1.size ≤ maxLen ∧ (Lit.int .i64 k.2.1).wf = true ∧ (Lit.int .i64 k.2.2).wf = true
def rlit (k : RK) : Lit := .string (keyBytes [.string k.1.data.toList, .int .i64 k.2.1, .int .i64 k.2.2])
set_option maxRecDepth 100000 in
theorem rk_keyed : Keyed Try.prog 53 := Keyed.of_law (deep_law_gate laid_out (by decide +kernel) (by decide +kernel) (by kernel_rfl) (by kernel_rfl))
set_option maxRecDepth 100000 in
theorem rk_lits (n : Nat) (cs : List Value) : Try.prog.keyLits (n + 1) 53 cs = if cs.length = 3 then (do let a ← Try.prog.keyLits n 9 ((cs.drop 0).take 1); let b ← Try.prog.keyLits n 3 ((cs.drop 1).take 1); let c ← Try.prog.keyLits n 3 ((cs.drop 2).take 1); some (a ++ (b ++ c))) else none := by
 have hc : Try.prog.cellsOf 53 = 3 := by kernel_rfl
 have hc3 : Try.prog.cellsOf 3 = 1 := by kernel_rfl
 have hc4 : Try.prog.cellsOf 9 = 1 := by kernel_rfl
 conv => lhs; unfold Program.keyLits
 rw [Try.underlying53]
 simp [hc, hc3, hc4]
 split
 ·cases Try.prog.keyLits n 9 (List.take 1 cs) <;> cases Try.prog.keyLits n 3 (List.take 1 cs.tail) <;> cases Try.prog.keyLits n 3 (List.take 1 (List.drop 2 cs)) <;> simp
 ·rfl
set_option maxRecDepth 100000 in
theorem rk_int {n : Nat} {a : Int} (h : (Lit.int .i64 a).wf = true) : Try.prog.keyLits (n + 1) 3 [.int .i64 a] = some [.int .i64 a] := by
 unfold Program.keyLits
 rw [Try.underlying3]
 simp [h]
set_option maxRecDepth 100000 in
theorem rk_str {n : Nat} {a : ByteArray} (h : a.size ≤ maxLen) : Try.prog.keyLits (n + 1) 9 [.string a] = some [.string a.data.toList] := by
 unfold Program.keyLits
 rw [Try.underlying9]
 simp [h]
set_option maxRecDepth 100000 in
theorem rk_strs {d : Nat} {x : Value} {l : List Lit} (h : Try.prog.keyLits (d + 1) 9 [x] = some l) : ∃ a : ByteArray, x = .string a ∧ l = [.string a.data.toList] ∧ a.size ≤ maxLen := by
 unfold Program.keyLits at h
 rw [Try.underlying9] at h
 cases x <;> simp at h
 exact ⟨_, rfl, h.2.symm, h.1⟩
set_option maxRecDepth 100000 in
theorem rk_ints {d : Nat} {x : Value} {l : List Lit} (h : Try.prog.keyLits (d + 1) 3 [x] = some l) : ∃ a, x = .int .i64 a ∧ l = [.int .i64 a] ∧ (Lit.int .i64 a).wf = true := by
 unfold Program.keyLits at h
 rw [Try.underlying3] at h
 cases x <;> simp at h
 obtain ⟨⟨rfl, h1⟩, rfl⟩ := h
 exact ⟨_, rfl, rfl, h1⟩
set_option maxRecDepth 100000 in
theorem rk_key {k : RK} (h : okR k) : keyOf Try.prog 53 (keyV k) = some (rlit k) := by
 have hf : Value.formed Try.prog 53 (keyV k) = true := by
  have hc : Try.prog.cellsOf 53 = 3 := by kernel_rfl
  simp [Value.formed, Try.underlying53, hc]
 have hk : Try.prog.keyType 53 = true := by kernel_rfl
 have h1 : 1 ≤ Try.prog.types.size := by decide +kernel
 obtain ⟨n, hn⟩ : ∃ n, Try.prog.types.size + 1 = n + 2 := ⟨Try.prog.types.size - 1, by omega⟩
 unfold keyOf
 rw [Try.underlying53]
 simp only [hk, hf, Bool.and_self, if_true]
 rw [hn]
 show Option.map _ (Try.prog.keyLits (n + 2) 53 [.string k.1, .int .i64 k.2.1, .int .i64 k.2.2]) = _
 rw [rk_lits]
 simp [rk_str h.1, rk_int h.2.1, rk_int h.2.2]
 rfl
set_option maxRecDepth 100000 in
theorem rk_of_key {v : Value} {l : Lit} (h : keyOf Try.prog 53 v = some l) : ∃ k, v = keyV k ∧ l = rlit k ∧ okR k := by
 obtain ⟨xs, L, rfl, hl, rfl⟩ := keyOf_top (by rw [Try.underlying53]) h
 have h1 : 1 ≤ Try.prog.types.size := by decide +kernel
 obtain ⟨n, hn⟩ : ∃ n, Try.prog.types.size + 1 = n + 2 := ⟨Try.prog.types.size - 1, by omega⟩
 rw [hn, rk_lits] at hl
 obtain ⟨cs⟩ := xs
 have hcs : cs.length = 3 := by
  split at hl
  ·assumption
  ·cases hl
 match cs, hcs with
 | [x, y, z], _ =>
  rw [if_pos (by rfl)] at hl
  simp only [Option.bind_eq_bind, Option.bind_eq_some_iff] at hl
  obtain ⟨a, ha, b, hb, c, hc, e⟩ := hl
  injection e with e
  subst e
  obtain ⟨a, rfl, rfl, wa⟩ := rk_strs ha
  obtain ⟨b, rfl, rfl, wb⟩ := rk_ints hb
  obtain ⟨c, rfl, rfl, wc⟩ := rk_ints hc
  exact ⟨(_, _, _), rfl, rfl, wa, wb, wc⟩
theorem rk_inj {a b : RK} (ha : okR a) (hb : okR b) (h : rlit a = rlit b) : a = b := by
 have h1 := rk_key ha
 rw [h] at h1
 have h2 := rk_keyed.inj h1 (rk_key hb)
 simp at h2
 exact Prod.ext h2.1 (Prod.ext h2.2.1 h2.2.2)
def MapR (w : World) (b n : Nat) (f : RK → Option Int) : Prop := ∃ D : DataW Value, w.ownsMap Try.prog 53 heldP b n D ∧ (∀ k, okR k → Maps.has D (rlit k) = (f k).isSome ∧ ∀ z, D.atKey (rlit k) z = (match f k with | some v => .held (.int .i64 v) | none => z)) ∧ ∀ k, (f k).isSome = true → okR k
section
variable {w w' : World} {b n m : Nat} {S : RK → Bool} {f : RK → Option Int}
theorem MapR.blk (h : MapR w b n f) (hk : w'.heap[b]? = w.heap[b]?) : MapR w' b n f := by
 obtain ⟨D, ⟨es, clock, hb, rest⟩, h2⟩ := h
 exact ⟨D, ⟨es, clock, hk.trans hb, rest⟩, h2⟩
theorem MapR.lt (h : MapR w b n f) : b < w.heap.size := by
 obtain ⟨D, h1, _⟩ := h
 exact h1.lt
theorem MapR.isMap (h : MapR w b n f) : ∃ es k, w.heap[b]? = some (.map es k) := by
 obtain ⟨D, ⟨es, clock, hb, _⟩, _⟩ := h
 exact ⟨es, clock, hb⟩
theorem MapR.up (h : MapR w b n f) (hb : Below w.heap.size w w') : MapR w' b n f := h.blk (hb.block b h.lt)
theorem MapR.only {M : Nat → Prop} (h : MapR w b n f) (hb : Only M w w') (hs : ¬ M b) : MapR w' b n f := h.blk (hb.blk b h.lt hs)
theorem MapR.made (w : World) : MapR (w.alloc (.map #[] 0)) w.heap.size 0 (fun _ => none) :=
 ⟨.map [], World.ownsMap_made _ _ _ _, fun _ _ => ⟨rfl, fun _ => rfl⟩, fun _ h => by cases h⟩
theorem MapR.ext {g : RK → Option Int} (h : MapR w b n f) (hg : ∀ c, g c = f c) : MapR w b n g := by
 obtain rfl : g = f := funext hg
 exact h
set_option maxRecDepth 100000 in
theorem MapR.look (h : MapR w b n f) {k : RK} (hk : okR k) : (Instr.lookup 57 (.map (some b)) (keyV k) false).run Try.prog w = .ok (.int .i64 ((f k).getD 0)) w := by
 obtain ⟨D, h1, h3, _⟩ := h
 obtain ⟨v, ps, hrun, hv⟩ := h1.lookup rk_keyed Try.underlying57 (z := .int .i64 0) (Try.zeroValue3 w) (zd := .held (.int .i64 0)) (zp := []) rfl (rk_key hk)
 have he : v = .int .i64 ((f k).getD 0) := by
  rw [(h3 k hk).2] at hv
  simp only [heldP, Option.some.injEq, Prod.mk.injEq] at hv
  have h4 := hv.1
  cases hf : f k with
  | none => rw [hf] at h4; simpa using h4
  | some u => rw [hf] at h4; simpa using h4
 rw [hrun, he]
set_option maxRecDepth 100000 in
theorem MapR.look_ok (h : MapR w b n f) {k : RK} (hk : okR k) : (Instr.lookup 57 (.map (some b)) (keyV k) true).run Try.prog w = .ok (.tuple #[.int .i64 ((f k).getD 0), .bool (f k).isSome]) w := by
 obtain ⟨D, h1, h3, _⟩ := h
 obtain ⟨v, ps, hrun, hv⟩ := h1.look_ok rk_keyed Try.underlying57 (z := .int .i64 0) (Try.zeroValue3 w) (zd := .held (.int .i64 0)) (zp := []) rfl (rk_key hk)
 have he : v = .int .i64 ((f k).getD 0) := by
  rw [(h3 k hk).2] at hv
  simp only [heldP, Option.some.injEq, Prod.mk.injEq] at hv
  have h4 := hv.1
  cases hf : f k with
  | none => rw [hf] at h4; simpa using h4
  | some u => rw [hf] at h4; simpa using h4
 rw [hrun, he, (h3 k hk).1]
theorem MapR.size (h : MapR w b n f) (ty : TypeId) : ∃ q : Nat, q ≤ n ∧ (Builtin.len_ #[57] ty #[.map (some b)]).run Try.prog w = .ok (.int .i64 (q : Int)) w := by
 obtain ⟨D, h1, _⟩ := h
 exact ⟨_, h1.size_le, h1.len Try.underlying57 ty⟩
set_option maxRecDepth 100000 in
theorem MapR.put (h : MapR w b n f) {k : RK} (hk : okR k) (hn : n ≤ 1000000) (v : Int) : ∃ W, (Instr.mapUpdate 57 (.map (some b)) (keyV k) (.int .i64 v)).run Try.prog w = .ok () W ∧ MapR W b (n + 1) (fun q => if q = k then some v else f q) ∧ Only (fun j => j = b) w W := by
 obtain ⟨D, h1, h3, h4⟩ := h
 have h2 := h1.isMap
 obtain ⟨W, hrun, o2, g2⟩ := h1.store (R := heldP) (val := .int .i64 v) (d := .held (.int .i64 v)) (ps := []) rk_keyed Try.underlying57 (by unfold maxLen; omega) (rk_key hk) rfl
 refine ⟨W, hrun, ⟨_, o2, fun q hq => ?_, fun q hq => ?_⟩, Only.grown g2.grown (fun j e => by cases e; rfl)⟩
 ·by_cases hqk : q = k
  ·subst hqk
   rw [has_put_same h2 (rk_keyed.key (rk_key hk))]
   exact ⟨by simp, fun z => by rw [atKey_put_same h2 (rk_keyed.key (rk_key hk))]; simp⟩
  ·have hne : rlit q ≠ rlit k := fun e => hqk (rk_inj hq hk e)
   rw [has_put_other hne]
   exact ⟨by simp [hqk, (h3 q hq).1], fun z => by rw [atKey_put_other hne]; simp [hqk, (h3 q hq).2]⟩
 ·by_cases hqk : q = k
  ·subst hqk; exact hk
  ·simp [hqk] at hq
   exact h4 q hq
end
open Go.RowKit Go.Maps
theorem wp_load_is {P : Program} {o : Oper} {a : Act} {w : World} {K : Act → World → Prop} {Q : Exit → Act → World → Prop} (ty : TypeId) (x : Operand) (hop : o.op = .load ty x) (p : Value) (hx : a.eval x = p) (V : Value)
  (hl : (Instr.loadAt ty p).run P w = .ok V w) (h : K (a.put o.dst V) w) : o.wp P a w K Q := by
 unfold Oper.wp execOp
 simp only [hop, hx, Sem.run_bind, hl, Sem.run_pure, Result.andThen_ok]
 exact h
open Go.RowKit
structure Two (wr wx : World) (p q : Nat) (g : Grp) : Prop where
 gp : GB wx p g
 gq : GB wx q g
 fp : wx.there p 0 21
 fq : wx.there q 0 21
 ne : p ≠ q
 hp : wr.heap.size ≤ p
 hq : wr.heap.size ≤ q
 below : Below wr.heap.size wr wx
structure Lay (α : Type) where
 cel : α → List Value
 s : Nat
 len : ∀ a, (cel a).length = s
 one : ∀ a, ∀ v ∈ cel a, v.oneCell' = true
 pos : 0 < s
section
variable {α : Type} {R : Lay α} {w w' : World} {A : Option Addr} {L : List α} {e : TypeId} {base : Nat} {v : Value}
def Lay.all (R : Lay α) (L : List α) : List Value := L.flatMap R.cel
theorem Lay.all_len (R : Lay α) : ∀ L : List α, (R.all L).length = L.length * R.s
 | [] => by simp [Lay.all]
 | a :: L => by
  have h := Lay.all_len R L
  unfold Lay.all at h ⊢
  rw [List.flatMap_cons, List.length_append, h, R.len, List.length_cons, Nat.add_mul]
  omega
theorem Lay.get (R : Lay α) : ∀ (L : List α) (i : Nat) (a : α), L[i]? = some a → ∀ j, j < R.s → (R.all L)[i * R.s + j]? = (R.cel a)[j]?
 | [], i, a, h, _, _ => by simp at h
 | b :: L, 0, a, h, j, hj => by
  simp at h; subst h
  unfold Lay.all
  rw [List.flatMap_cons, Nat.zero_mul, Nat.zero_add, List.getElem?_append_left (by rw [R.len]; exact hj)]
 | b :: L, i + 1, a, h, j, hj => by
  have h1 := Lay.get R L i a (by simpa using h) j hj
  unfold Lay.all at h1 ⊢
  rw [List.flatMap_cons, List.getElem?_append_right (by rw [R.len, Nat.add_mul]; omega), R.len, ← h1]
  congr 1
  rw [Nat.add_mul]; omega
theorem Lay.all_append (R : Lay α) (L M : List α) : R.all (L ++ M) = R.all L ++ R.all M := List.flatMap_append
theorem Lay.all_one (R : Lay α) (L : List α) : ∀ v ∈ R.all L, v.oneCell' = true := by
 intro v hv
 obtain ⟨a, _, ha⟩ := List.mem_flatMap.1 hv
 exact R.one a v ha
def RowAt (R : Lay α) (w : World) (A : Option Addr) (L : List α) : Prop := 0 < L.length → ∃ b off, A = some ⟨b, off, none⟩ ∧ b < w.heap.size ∧ w.rangeAt b off (R.all L)
theorem RowAt.nil : RowAt R w A [] := fun h => absurd h (by simp)
theorem RowAt.at (h : RowAt R w A L) {i : Nat} {a : α} (hi : L[i]? = some a) : ∃ b off, A = some ⟨b, off, none⟩ ∧ b < w.heap.size ∧ w.rangeAt b (off + i * R.s) (R.cel a) := by
 have hil : i < L.length := (List.getElem?_eq_some_iff.1 hi).1
 obtain ⟨b, off, e, hlt, hc⟩ := h (by omega)
 refine ⟨b, off, e, hlt, fun j v hj => ?_⟩
 have hjs : j < R.s := by
  rw [← R.len a]
  exact (List.getElem?_eq_some_iff.1 hj).1
 rw [Nat.add_assoc]
 exact hc _ _ ((R.get L i a hi j hjs).trans hj)
theorem RowAt.same (h : RowAt R w A L) (hk : ∀ g o, A = some ⟨g, o, none⟩ → w'.heap[g]? = w.heap[g]?) : RowAt R w' A L := fun h0 => by
 obtain ⟨b, off, e, hlt, hc⟩ := h h0
 have h1 := hk b off e
 refine ⟨b, off, e, ?_, fun j v hj => (World.cell?_of_block (w := w) h1).trans (hc j v hj)⟩
 rcases Nat.lt_or_ge b w'.heap.size with h2 | h2
 ·exact h2
 ·rw [Array.getElem?_eq_none h2, Array.getElem?_eq_getElem hlt] at h1; cases h1
theorem RowAt.up (h : RowAt R w A L) (hb : Below w.heap.size w w') : RowAt R w' A L := fun h0 => by
 obtain ⟨b, off, e, hlt, hc⟩ := h h0
 exact ⟨b, off, e, Nat.lt_of_lt_of_le hlt hb.size, fun j v hj => (hb.cell (p := ⟨b, off + j, none⟩) hlt).trans (hc j v hj)⟩
def OwnR (R : Lay α) (e : TypeId) (w : World) (base : Nat) (v : Value) (L : List α) : Prop := w.ownsRow base e R.s v L.length (R.all L)
theorem OwnR.nil : OwnR R e w base (.slice none 0 0) ([] : List α) := World.ownsRow_nil _ _ _ _
theorem OwnR.blk (h : OwnR R e w base v L) (hk : ∀ g, v.ownBlock = some g → w'.heap[g]? = w.heap[g]?) : OwnR R e w' base v L := by
 obtain ⟨h1, h2⟩ := h
 refine ⟨h1, ?_⟩
 rcases h2 with h2 | ⟨g, cap, cur, rfl, hbg, hg, rest⟩
 ·exact .inl h2
 ·exact .inr ⟨g, cap, cur, rfl, hbg, (hk g rfl).trans hg, rest⟩
theorem OwnR.lt (h : OwnR R e w base v L) {g : Nat} (hg : v.ownBlock = some g) : base ≤ g ∧ g < w.heap.size := World.ownsRow.lt h g hg
theorem OwnR.up (h : OwnR R e w base v L) (hb : Below w.heap.size w w') : OwnR R e w' base v L := h.blk fun g hg => hb.block g (h.lt hg).2
theorem OwnR.low {b2 : Nat} (h : OwnR R e w base v L) (hb : b2 ≤ base) : OwnR R e w b2 v L := by
 obtain ⟨h1, h2⟩ := h
 rcases h2 with h2 | ⟨g, cap, cur, rfl, hbg, hg⟩
 ·exact ⟨h1, .inl h2⟩
 ·exact ⟨h1, .inr ⟨g, cap, cur, rfl, Nat.le_trans hb hbg, hg⟩⟩
theorem OwnR.empty (hb : base ≤ w.heap.size) : OwnR R e (w.alloc (.cells #[] e)) base (.slice (some ⟨w.heap.size, 0, none⟩) 0 0) ([] : List α) :=
 ⟨by simp [Lay.all], .inr ⟨w.heap.size, 0, #[], rfl, hb, heap_alloc_new _ _, Nat.le_refl _, Nat.zero_le _, by simp, by simp [Lay.all]⟩⟩
theorem OwnR.reads (h : OwnR R e w base v L) : ∃ A c, v = .slice A L.length c ∧ RowAt R w A L ∧ (∀ g o, A = some ⟨g, o, none⟩ → v.ownBlock = some g ∧ o = 0) := by
 obtain ⟨h1, h2⟩ := h
 rcases h2 with ⟨rfl, h0⟩ | ⟨g, cap, cur, rfl, hbg, hg, hn, hcap, hsz, hcur⟩
 ·obtain rfl : L = [] := List.eq_nil_of_length_eq_zero h0
  exact ⟨none, 0, rfl, RowAt.nil, fun g o h => by cases h⟩
 ·refine ⟨_, cap, rfl, fun _ => ⟨g, 0, rfl, ?_, fun j u hj => ?_⟩, fun g' o h => by cases h; exact ⟨rfl, rfl⟩⟩
  ·rcases Nat.lt_or_ge g w.heap.size with hlt | hge
   ·exact hlt
   ·rw [Array.getElem?_eq_none hge] at hg; cases hg
  ·have hjl : j < L.length * R.s := by rw [← R.all_len]; exact (List.getElem?_eq_some_iff.1 hj).1
   rw [Nat.zero_add, ← hj, ← hcur, List.getElem?_take, if_pos hjl]
   simp only [World.cell?, hg]
   simp
theorem row_one {x : α} {g : Nat} {t : TypeId} (h : Wh t w g (R.cel x)) : RowAt R w (some ⟨g, 0, none⟩) [x] := fun _ => ⟨g, 0, rfl, h.lt, by
 have : R.all [x] = R.cel x := by simp [Lay.all]
 rw [this]
 exact h.range⟩
theorem wp_app_row {P : Program} {o : Oper} {a : Act} {K : Act → World → Prop} {Q : Exit → Act → World → Prop} (s x : Operand) (t : TypeId)
  (ho : o.op = .call { callee := .builtin .append, args := #[s, x], argTypes := #[t, t] })
  (i : TypeInfo) (z : Value) (bytes : Nat) (ht : P.underlying t = some (.slice e)) (hi : P.info? e = some i) (hz : i.zero = some z) (hsize : i.size = R.s) (hby : i.bytes = bytes) (hb8 : bytes ≤ 1000) (hzs : z.cells.size = R.s)
  (hs : a.eval s = v) (hown : OwnR R e w base v L) (X : Option Addr) (m c : Nat) (M : List α) (hm : M.length = m) (hx : a.eval x = .slice X m c) (hX : RowAt R w X M)
  (hlen : L.length + m ≤ 100000000) (hbase : base ≤ w.heap.size)
  (h : ∀ v' w', Hid (OwnR R e w' base v' (L ++ M)) → Hid (w.grownBy w' v.ownBlock) → Hid (v'.ownBlock = v.ownBlock ∨ v'.ownBlock = some w.heap.size) → K (a.put o.dst v') w') : Oper.wp P o a w K Q := by
 subst hm
 have hbb : (L.length + M.length) * bytes ≤ (L.length + M.length) * 1000 := Nat.mul_le_mul_left _ hb8
 rcases Nat.eq_zero_or_pos M.length with h0 | h0
 ·obtain rfl : M = [] := List.eq_nil_of_length_eq_zero h0
  have hrun : (Builtin.append_ #[t, t] o.type #[v, .slice X 0 c]).run P w = .ok v w := by
   rcases hown.2 with ⟨rfl, h9⟩ | ⟨g, cap, cur, rfl, hb, hg, hn, hcap, hcs, hcur⟩
   ·cases X <;> simp [Builtin.append_, run_underlying ht, sizeOf, typeInfo, hi, Builtin.lenOf, Builtin.firstCells, loadCells, loadCellsFrom]
   ·cases X <;> simp [Builtin.append_, run_underlying ht, sizeOf, typeInfo, hi, Builtin.lenOf, Builtin.firstCells, storeCells, loadCells, loadCellsFrom, hn]
  unfold Oper.wp
  simp [execOp, ho, resolve, invoke, builtin, hs, hx, hrun, Result.andThen]
  exact h v w (Lib.hid (by simpa using hown)) (Lib.hid ⟨rfl, rfl, rfl, Nat.le_refl _, fun _ _ _ => rfl⟩) (Lib.hid (.inl rfl))
 ·obtain ⟨b, off, rfl, hlt, hc⟩ := hX h0
  obtain ⟨v', w', hr, h2, h3, h4, h5⟩ := run_append_own_at (P := P) w base t o.type e i z R.s bytes ht hi hz hsize hby hzs R.pos v L.length (R.all L) hown ⟨b, off, none⟩ M.length c (R.all M) (R.all_len M)
   (fun j u hj => by
    have hadd : (⟨b, off, none⟩ : Addr).add j = ⟨b, off + j, none⟩ := by unfold Addr.add; split <;> simp_all
    rw [hadd]
    exact hc j u hj) (R.all_one M) (by unfold maxLen; omega) (by omega) hbase
  unfold Oper.wp execOp
  simp only [ho, resolve, invoke, builtin, Sem.run_bind, Sem.run_pure, Result.andThen_ok, List.map_toArray, List.map_cons, List.map_nil, hs, hx, hr]
  refine h v' w' (Lib.hid ?_) (Lib.hid h3) (Lib.hid h5)
  unfold OwnR
  rw [List.length_append, R.all_append]
  exact h2
theorem wpList_app_row {P : Program} {ops : Array Oper} {rest : List Oper} {o : Oper} {a : Act} {Q : Exit → Act → World → Prop} (hg : o.guard = none) (s x : Operand) (t : TypeId)
  (ho : o.op = .call { callee := .builtin .append, args := #[s, x], argTypes := #[t, t] })
  (i : TypeInfo) (z : Value) (bytes : Nat) (ht : P.underlying t = some (.slice e)) (hi : P.info? e = some i) (hz : i.zero = some z) (hsize : i.size = R.s) (hby : i.bytes = bytes) (hb8 : bytes ≤ 1000) (hzs : z.cells.size = R.s)
  (hs : a.eval s = v) (hown : OwnR R e w base v L) (X : Option Addr) (m c : Nat) (M : List α) (hm : M.length = m) (hx : a.eval x = .slice X m c) (hX : RowAt R w X M)
  (hlen : L.length + m ≤ 100000000) (hbase : base ≤ w.heap.size)
  (h : ∀ v' w', Hid (OwnR R e w' base v' (L ++ M)) → Hid (w.grownBy w' v.ownBlock) → Hid (v'.ownBlock = v.ownBlock ∨ v'.ownBlock = some w.heap.size) → wpList P ops Q rest (a.put o.dst v') w') : wpList P ops Q (o :: rest) a w :=
 wpList_plain hg fun _ hK => wp_app_row s x t ho i z bytes ht hi hz hsize hby hb8 hzs hs hown X m c M hm hx hX hlen hbase fun v' w' h1 h2 h3 => hK _ _ (h v' w' h1 h2 h3)
end
section
variable {S T : Nat → Prop} {P P' : World → Prop} {w w' : World}
end
open Go.RowKit Go.Sort
def GrowsQ (w w' : World) : Prop := ∃ q os, w' = grow (w.drewN q) os
theorem GrowsQ.refl (w : World) : GrowsQ w w := ⟨0, #[], by simp [grow, World.drewN]⟩
theorem grow_drewN (w : World) (os : Array Obj) (q : Nat) : (grow w os).drewN q = grow (w.drewN q) os := by
 unfold grow World.drewN; rfl
theorem drewN_drewN (w : World) (p q : Nat) : (w.drewN p).drewN q = w.drewN (p + q) := by
 unfold World.drewN; simp only [Nat.add_assoc]
theorem GrowsQ.trans {w w' w2 : World} (h : GrowsQ w w') (k : GrowsQ w' w2) : GrowsQ w w2 := by
 obtain ⟨q, os, rfl⟩ := h
 obtain ⟨p, os', rfl⟩ := k
 exact ⟨q + p, os ++ os', by rw [grow_drewN, grow_grow, drewN_drewN]⟩
theorem GrowsQ.below {w w' : World} (h : GrowsQ w w') : Below w.heap.size w w' := by
 obtain ⟨q, os, rfl⟩ := h
 exact ⟨rfl, rfl, rfl, by simp [grow, World.drewN], fun k hk => by
  show (w.heap ++ os)[k]? = w.heap[k]?
  rw [Array.getElem?_append_left hk]⟩
theorem GrowsQ.drew (w : World) : GrowsQ w w.drew := ⟨1, #[], by unfold grow World.drewN World.drew; simp only [Array.append_empty]⟩
theorem GrowsQ.alloc (w : World) (o : Obj) : GrowsQ w (w.alloc o) := ⟨0, #[o], by rw [alloc_eq_grow]; simp [grow, World.drewN]⟩
theorem ltOf_cmR (x y : RK) : ltOf cmR x y = decide (cmR x y < 0) := rfl
theorem cmR_swo : SWO (ltOf cmR) where
 irrefl x := by rw [ltOf_cmR]; exact decide_eq_false (ltR_irrefl x)
 trans x y z h1 h2 := by rw [ltOf_cmR] at *; simp only [decide_eq_true_eq] at *; exact ltR_trans h1 h2
 ntrans x y z h1 h2 := by
  rw [ltOf_cmR] at *
  simp only [decide_eq_false_iff_not] at *
  intro h3
  have g1 : ¬ ltR x y := h1
  have g2 : ¬ ltR y z := h2
  have g3 : ltR x z := h3
  by_cases q : ltR y x
  ·exact g2 (ltR_trans q g3)
  ·rw [ltR_tri g1 q] at g3
   exact g2 g3
theorem cmR_tot (x y : RK) (h1 : ltOf cmR x y = false) (h2 : ltOf cmR y x = false) : x = y := by
 rw [ltOf_cmR] at h1 h2
 have g1 : ¬ cmR x y < 0 := of_decide_eq_false h1
 have g2 : ¬ cmR y x < 0 := of_decide_eq_false h2
 exact ltR_tri g1 g2
theorem bytLess (x y : ByteArray) : Op.bytesLess x.toList y.toList = decide (x.data.toList < y.data.toList) := by
 rw [bytesLess_eq, Lib.toList_data, Lib.toList_data]
theorem ccms_any (x y : ByteArray) (w : World) : Calls Try.prog 50 #[.string x, .string y] w fun e w' => e = .returned (.int .i64 (cmS x y)) ∧ w = w' := by
 have hn : ∀ (x : ByteArray) (w : World), Calls Try.prog 57 #[.string x] w fun e w' => e = .returned (.bool false) ∧ w = w' := by
  intro x w
  have h : (x.toList == x.toList) = true := by simp
  go_enter Try.func57, Try.ntmps57
  go_wp2_with fail
  go_ret
  exact ⟨by simp, rfl⟩
 have HN := Lib.hid hn
 clear hn
 have b1 := bytLess x y
 have b2 := bytLess y x
 unfold cmS
 by_cases h : x.data.toList < y.data.toList
 ·rw [if_pos h]
  rw [decide_eq_true h] at b1
  clear h b2
  go_enter Try.func50, Try.ntmps50
  go_wp2_with (go_at_call 57; refine (HN.out _ _).mono ?_; rintro e w' ⟨rfl, rfl⟩)
  go_ret
  exact ⟨rfl, rfl⟩
 ·rw [if_neg h]
  rw [decide_eq_false h] at b1
  by_cases h2 : y.data.toList < x.data.toList
  ·rw [if_pos h2]
   have hne : (x.toList == y.toList) = false := by
    rw [beq_eq_false_iff_ne]
    intro e
    rw [Lib.toList_data, Lib.toList_data] at e
    rw [e] at h2
    exact List.lt_irrefl _ h2
   have hG : (binOp BinOp.gtr 9 (.string x) (.string y)).run Try.prog w = .ok (.bool true) w := by simp [binOp, Op.stringOp, b1, hne]
   clear h h2 b2 hne
   go_enter Try.func50, Try.ntmps50
   go_wp2_with (go_at_call 57; refine (HN.out _ _).mono ?_; rintro e w' ⟨rfl, rfl⟩)
   go_ret
   exact ⟨rfl, rfl⟩
  ·rw [if_neg h2]
   obtain rfl : x = y := ByteArray.ext (Array.toList_inj.1 (List.le_antisymm (List.not_lt.1 h2) (List.not_lt.1 h)))
   have hG : (binOp BinOp.gtr 9 (.string x) (.string x)).run Try.prog w = .ok (.bool false) w := by simp [binOp, Op.stringOp]
   clear b2 h h2
   go_enter Try.func50, Try.ntmps50
   go_wp2_with (go_at_call 57; refine (HN.out _ _).mono ?_; rintro e w' ⟨rfl, rfl⟩)
   go_ret
   exact ⟨rfl, rfl⟩
def or3 (a b c : Int) : Int := if a = 0 then (if b = 0 then c else b) else a
set_option maxHeartbeats 800000 in
theorem or3_any (x y z : Int) (b : Nat) (w : World) (hx : w.cell? ⟨b, 0, none⟩ = some (.int .i64 x)) (hy : w.cell? ⟨b, 1, none⟩ = some (.int .i64 y)) (hz : w.cell? ⟨b, 2, none⟩ = some (.int .i64 z)) :
  Calls Try.prog 49 #[.slice (some ⟨b, 0, none⟩) 3 3] w fun e w' => e = .returned (.int .i64 (or3 x y z)) ∧ w = w' := by
 unfold or3
 go_enter Try.func49, Try.ntmps49
 go_wp2_with fail
 go_loopg [8] 3 (fun kx s8 W => w = W ∧ ((s8 = .int .i64 0 ∧ 3 ≤ kx) ∨ (s8 = .int .i64 1 ∧ 2 ≤ kx ∧ x = 0) ∨ (s8 = .int .i64 2 ∧ 1 ≤ kx ∧ x = 0 ∧ y = 0) ∨ (s8 = .int .i64 3 ∧ x = 0 ∧ y = 0 ∧ z = 0)))
 case atStart => exact ⟨rfl, .inl ⟨rfl, by omega⟩⟩
 case round =>
  obtain ⟨rfl, hrel⟩ := hrel
  rcases hrel with ⟨rfl, hk⟩ | ⟨rfl, hk, rfl⟩ | ⟨rfl, hk, rfl, rfl⟩ | ⟨rfl, rfl, rfl, rfl⟩
  ·by_cases h0 : x = 0
   ·subst h0
    go_wp2_with fail
    go_roundg 2
    case measure => omega
    case rel => exact ⟨by first | trivial | rfl, .inr (.inl ⟨rfl, by omega, by first | rfl | trivial⟩)⟩
   ·have hne : (x != 0) = true := by simpa using h0
    have H0 := Lib.hid h0
    clear h0
    go_wp2_with fail
    go_ret
    exact ⟨by first | rfl | (rw [if_neg H0.out]; rfl), rfl⟩
  ·by_cases h0 : y = 0
   ·subst h0
    go_wp2_with fail
    go_roundg 1
    case measure => omega
    case rel => exact ⟨by first | trivial | rfl, .inr (.inr (.inl ⟨rfl, by omega, by first | rfl | trivial, by first | rfl | trivial⟩))⟩
   ·have hne : (y != 0) = true := by simpa using h0
    have H0 := Lib.hid h0
    clear h0
    go_wp2_with fail
    go_ret
    exact ⟨by first | rfl | (rw [if_pos rfl, if_neg H0.out]; rfl), rfl⟩
  ·by_cases h0 : z = 0
   ·subst h0
    go_wp2_with fail
    go_roundg 0
    case measure => omega
    case rel => exact ⟨by first | trivial | rfl, .inr (.inr (.inr ⟨rfl, by first | rfl | trivial, by first | rfl | trivial, by first | rfl | trivial⟩))⟩
   ·have hne : (z != 0) = true := by simpa using h0
    clear h0
    go_wp2_with fail
    go_ret
    exact ⟨by first | rfl | (rw [if_pos rfl, if_pos rfl]; rfl), rfl⟩
  ·go_wp2_with fail
   go_ret
   exact ⟨rfl, rfl⟩
structure K3 (w : World) (b : Nat) (k : RK) : Prop where
 c0 : w.cell? ⟨b, 0, none⟩ = some (.string k.1)
 c1 : w.cell? ⟨b, 1, none⟩ = some (.int .i64 k.2.1)
 c2 : w.cell? ⟨b, 2, none⟩ = some (.int .i64 k.2.2)
 lt : b < w.heap.size
theorem K3.up {w w' : World} {b : Nat} {k : RK} (h : K3 w b k) (hb : Below w.heap.size w w') : K3 w' b k :=
 ⟨(hb.cell (p := ⟨b, 0, none⟩) h.lt).trans h.c0, (hb.cell (p := ⟨b, 1, none⟩) h.lt).trans h.c1, (hb.cell (p := ⟨b, 2, none⟩) h.lt).trans h.c2, Nat.lt_of_lt_of_le h.lt hb.size⟩
theorem k3_new (w : World) (t : TypeId) (k : RK) : K3 (w.alloc (.cells #[.string k.1, .int .i64 k.2.1, .int .i64 k.2.2] t)) w.heap.size k := by
 refine ⟨?_, ?_, ?_, by simp⟩ <;> (simp only [World.cell?]; rw [heap_alloc_new]; rfl)
def rqP (c d f : Int) (v : Value) (w : World) : Prop := ∃ b, v = .slice (some ⟨b, 0, none⟩) 3 3 ∧ w.cell? ⟨b, 0, none⟩ = some (.int .i64 c) ∧ w.cell? ⟨b, 1, none⟩ = some (.int .i64 d) ∧ w.cell? ⟨b, 2, none⟩ = some (.int .i64 f) ∧ b < w.heap.size
def rqF (c d f : Int) : AK.Fact GrowsQ := ⟨rqP c d f, fun _ _ _ hb ⟨b, h1, h2, h3, h5, h4⟩ => ⟨b, h1, (hb.below.cell (p := ⟨b, 0, none⟩) h4).trans h2, (hb.below.cell (p := ⟨b, 1, none⟩) h4).trans h3, (hb.below.cell (p := ⟨b, 2, none⟩) h4).trans h5, Nat.lt_of_lt_of_le h4 hb.below.size⟩⟩
theorem n3_new (w : World) (t : TypeId) (c d f : Int) : (w.alloc (.cells #[.int .i64 c, .int .i64 d, .int .i64 f] t)).cell? ⟨w.heap.size, 0, none⟩ = some (.int .i64 c) ∧ (w.alloc (.cells #[.int .i64 c, .int .i64 d, .int .i64 f] t)).cell? ⟨w.heap.size, 1, none⟩ = some (.int .i64 d) ∧ (w.alloc (.cells #[.int .i64 c, .int .i64 d, .int .i64 f] t)).cell? ⟨w.heap.size, 2, none⟩ = some (.int .i64 f) ∧ w.heap.size < (w.alloc (.cells #[.int .i64 c, .int .i64 d, .int .i64 f] t)).heap.size := by
 refine ⟨?_, ?_, ?_, by simp⟩ <;> (simp only [World.cell?]; rw [heap_alloc_new]; rfl)
def rqL (s0 : Nat) (x1 y1 : ByteArray) (x2 x3 y2 y3 c d f r : Int) : List (Nat × AK.Fact (GrowsQ)) := [(5, AK.Fact.is (.pointer (some ⟨s0, 0, none⟩))), (6, AK.Fact.is (.string x1)), (7, AK.Fact.is (.pointer (some ⟨s0 + 1, 0, none⟩))), (8, AK.Fact.is (.string y1)), (9, AK.Fact.is (.int .i64 c)), (10, AK.Fact.is (.pointer (some ⟨s0, 1, none⟩))), (11, AK.Fact.is (.int .i64 x2)), (12, AK.Fact.is (.pointer (some ⟨s0 + 1, 1, none⟩))), (13, AK.Fact.is (.int .i64 y2)), (14, AK.Fact.is (.int .i64 d)), (15, AK.Fact.is (.pointer (some ⟨s0, 2, none⟩))), (16, AK.Fact.is (.int .i64 x3)), (17, AK.Fact.is (.pointer (some ⟨s0 + 1, 2, none⟩))), (18, AK.Fact.is (.int .i64 y3)), (19, AK.Fact.is (.int .i64 f)), (20, rqF c d f), (21, AK.Fact.is (.int .i64 r)), (4, AK.Fact.is (.int .i64 r))]
set_option maxRecDepth 100000 in
set_option maxHeartbeats 3200000 in
theorem kcmp_any (x y : RK) (w : World) :
  Calls Try.prog 42 #[keyV x, keyV y] w fun e w' => e = .returned (.int .i64 (cmR x y)) ∧ ∃ q os, w' = grow (w.drewN q) os := by
 obtain ⟨x1, x2, x3⟩ := x
 obtain ⟨y1, y2, y3⟩ := y
 dsimp only [keyV]
 have HC := Lib.hid (ccms_any x1 y1)
 have HD := Lib.hid (ccmp_any x2 y2)
 have HE := Lib.hid (ccmp_any x3 y3)
 have hE : cmR (x1, x2, x3) (y1, y2, y3) = or3 (cmS x1 y1) (cmI x2 y2) (cmI x3 y3) := rfl
 rw [hE]
 clear hE
 obtain ⟨c, hc⟩ : ∃ c, cmS x1 y1 = c := ⟨_, rfl⟩
 obtain ⟨d, hd⟩ : ∃ d, cmI x2 y2 = d := ⟨_, rfl⟩
 obtain ⟨f, hf⟩ : ∃ f, cmI x3 y3 = f := ⟨_, rfl⟩
 rw [hc] at HC ⊢
 rw [hd] at HD ⊢
 rw [hf] at HE ⊢
 obtain ⟨r, hr⟩ : ∃ r, or3 c d f = r := ⟨_, rfl⟩
 have HOR : Hid (∀ b W, W.cell? ⟨b, 0, none⟩ = some (.int .i64 c) → W.cell? ⟨b, 1, none⟩ = some (.int .i64 d) → W.cell? ⟨b, 2, none⟩ = some (.int .i64 f) → Calls Try.prog 49 #[.slice (some ⟨b, 0, none⟩) 3 3] W fun e w' => e = .returned (.int .i64 r) ∧ W = w') := Lib.hid (fun b W h1 h2 h3 => by rw [← hr]; exact or3_any c d f b W h1 h2 h3)
 rw [hr]
 clear hc hd hf hr
 obtain ⟨s0, hs0⟩ : ∃ s0, w.heap.size = s0 := ⟨_, rfl⟩
 obtain ⟨w2, hw2⟩ : ∃ w2, (w.alloc (.cells #[.string x1, .int .i64 x2, .int .i64 x3] 53)).alloc (.cells #[.string y1, .int .i64 y2, .int .i64 y3] 53) = w2 := ⟨_, rfl⟩
 have HX : Hid (K3 w2 s0 (x1, x2, x3)) := Lib.hid (by rw [← hw2, ← hs0]; exact (k3_new w 53 (x1, x2, x3)).up (below_alloc_new _))
 have HY : Hid (K3 w2 (s0 + 1) (y1, y2, y3)) := Lib.hid (by
  rw [← hw2, ← hs0]
  have h9 := k3_new (w.alloc (.cells #[.string x1, .int .i64 x2, .int .i64 x3] 53)) 53 (y1, y2, y3)
  rw [World.size_alloc] at h9
  exact h9)
 have HG2 : Hid (GrowsQ w w2) := Lib.hid (by rw [← hw2]; exact (GrowsQ.alloc _ _).trans (GrowsQ.alloc _ _))
 go_enter Try.func42, Try.ntmps42
 go_wp2_with fail
 refine AK.region_facts (Rp := GrowsQ) (Kp := GrowsQ) (rqL s0 x1 y1 x2 x3 y2 y3 c d f r) (fun _ _ W => GrowsQ w2 W) [[], [5], [], [7], [6, 8], [], [10], [], [12], [11, 13], [], [15], [], [17], [16, 18], [9, 14, 19], [20], [21]] [] [[]] [0, 0, 0, 0, 0, 0, 0, 0, 0, 0, 0, 0, 0, 0, 0, 0, 0, 0] [0, 0, 0, 0, 0, 0, 0, 0, 0, 0, 0, 0, 0, 0, 0, 0, 0, 0] [] (fun u => by simp only [rqL, AK.temps, List.map_cons, List.map_nil, fillL, List.setIfInBounds_toArray, List.set_cons_zero, List.set_cons_succ]; rfl) (by kernel_rfl) (by kernel_rfl) (fun _ _ h => h.below.size) (fun _ _ h => h) (fun _ _ _ _ hb h => h.trans hb) (GrowsQ.drew _) ?_ ?_
 ·refine AK.sc (lim := 0) (lo := 0) rfl rfl rfl rfl ?_ ?_
  ·intro k_ u w_ hk_ hl_ hJ hF K hK
   clear hF
   go_simp
   exact hK.out _ _ (GrowsQ.refl _) (rfl) trivial
  refine AK.sc (lim := 0) (lo := 0) rfl rfl rfl rfl ?_ ?_
  ·intro k_ u w_ hk_ hl_ hJ hF K hK
   have h5 : u 5 = .pointer (some ⟨s0, 0, none⟩) := AK.facts_get hF 5 (by simp)
   clear hF
   simp only [h5] at hK ⊢
   clear h5
   have c_ := (HX.out.up hJ.below).c0
   go_simp
   exact hK.out _ _ (GrowsQ.refl _) (rfl) trivial
  refine AK.sc (lim := 0) (lo := 0) rfl rfl rfl rfl ?_ ?_
  ·intro k_ u w_ hk_ hl_ hJ hF K hK
   clear hF
   go_simp
   exact hK.out _ _ (GrowsQ.refl _) (rfl) trivial
  refine AK.sc (lim := 0) (lo := 0) rfl rfl rfl rfl ?_ ?_
  ·intro k_ u w_ hk_ hl_ hJ hF K hK
   have h7 : u 7 = .pointer (some ⟨s0 + 1, 0, none⟩) := AK.facts_get hF 7 (by simp)
   clear hF
   simp only [h7] at hK ⊢
   clear h7
   have c_ := (HY.out.up hJ.below).c0
   go_simp
   exact hK.out _ _ (GrowsQ.refl _) (rfl) trivial
  refine AK.sc (lim := 0) (lo := 0) rfl rfl rfl rfl ?_ ?_
  ·intro k_ u w_ hk_ hl_ hJ hF K hK
   have h6 : u 6 = .string x1 := AK.facts_get hF 6 (by simp)
   have h8 : u 8 = .string y1 := AK.facts_get hF 8 (by simp)
   clear hF
   simp only [h6, h8] at hK ⊢
   clear h6 h8
   go_simp
   refine (HC.out _).mono ?_
   rintro e w6 ⟨rfl, rfl⟩
   exact hK.out _ _ (GrowsQ.refl _) (rfl) trivial
  refine AK.sc (lim := 0) (lo := 0) rfl rfl rfl rfl ?_ ?_
  ·intro k_ u w_ hk_ hl_ hJ hF K hK
   clear hF
   go_simp
   exact hK.out _ _ (GrowsQ.refl _) (rfl) trivial
  refine AK.sc (lim := 0) (lo := 0) rfl rfl rfl rfl ?_ ?_
  ·intro k_ u w_ hk_ hl_ hJ hF K hK
   have h10 : u 10 = .pointer (some ⟨s0, 1, none⟩) := AK.facts_get hF 10 (by simp)
   clear hF
   simp only [h10] at hK ⊢
   clear h10
   have c_ := (HX.out.up hJ.below).c1
   go_simp
   exact hK.out _ _ (GrowsQ.refl _) (rfl) trivial
  refine AK.sc (lim := 0) (lo := 0) rfl rfl rfl rfl ?_ ?_
  ·intro k_ u w_ hk_ hl_ hJ hF K hK
   clear hF
   go_simp
   exact hK.out _ _ (GrowsQ.refl _) (rfl) trivial
  refine AK.sc (lim := 0) (lo := 0) rfl rfl rfl rfl ?_ ?_
  ·intro k_ u w_ hk_ hl_ hJ hF K hK
   have h12 : u 12 = .pointer (some ⟨s0 + 1, 1, none⟩) := AK.facts_get hF 12 (by simp)
   clear hF
   simp only [h12] at hK ⊢
   clear h12
   have c_ := (HY.out.up hJ.below).c1
   go_simp
   exact hK.out _ _ (GrowsQ.refl _) (rfl) trivial
  refine AK.sc (lim := 0) (lo := 0) rfl rfl rfl rfl ?_ ?_
  ·intro k_ u w_ hk_ hl_ hJ hF K hK
   have h11 : u 11 = .int .i64 x2 := AK.facts_get hF 11 (by simp)
   have h13 : u 13 = .int .i64 y2 := AK.facts_get hF 13 (by simp)
   clear hF
   simp only [h11, h13] at hK ⊢
   clear h11 h13
   go_simp
   refine (HD.out _).mono ?_
   rintro e w6 ⟨rfl, rfl⟩
   exact hK.out _ _ (GrowsQ.refl _) (rfl) trivial
  refine AK.sc (lim := 0) (lo := 0) rfl rfl rfl rfl ?_ ?_
  ·intro k_ u w_ hk_ hl_ hJ hF K hK
   clear hF
   go_simp
   exact hK.out _ _ (GrowsQ.refl _) (rfl) trivial
  refine AK.sc (lim := 0) (lo := 0) rfl rfl rfl rfl ?_ ?_
  ·intro k_ u w_ hk_ hl_ hJ hF K hK
   have h15 : u 15 = .pointer (some ⟨s0, 2, none⟩) := AK.facts_get hF 15 (by simp)
   clear hF
   simp only [h15] at hK ⊢
   clear h15
   have c_ := (HX.out.up hJ.below).c2
   go_simp
   exact hK.out _ _ (GrowsQ.refl _) (rfl) trivial
  refine AK.sc (lim := 0) (lo := 0) rfl rfl rfl rfl ?_ ?_
  ·intro k_ u w_ hk_ hl_ hJ hF K hK
   clear hF
   go_simp
   exact hK.out _ _ (GrowsQ.refl _) (rfl) trivial
  refine AK.sc (lim := 0) (lo := 0) rfl rfl rfl rfl ?_ ?_
  ·intro k_ u w_ hk_ hl_ hJ hF K hK
   have h17 : u 17 = .pointer (some ⟨s0 + 1, 2, none⟩) := AK.facts_get hF 17 (by simp)
   clear hF
   simp only [h17] at hK ⊢
   clear h17
   have c_ := (HY.out.up hJ.below).c2
   go_simp
   exact hK.out _ _ (GrowsQ.refl _) (rfl) trivial
  refine AK.sc (lim := 0) (lo := 0) rfl rfl rfl rfl ?_ ?_
  ·intro k_ u w_ hk_ hl_ hJ hF K hK
   have h16 : u 16 = .int .i64 x3 := AK.facts_get hF 16 (by simp)
   have h18 : u 18 = .int .i64 y3 := AK.facts_get hF 18 (by simp)
   clear hF
   simp only [h16, h18] at hK ⊢
   clear h16 h18
   go_simp
   refine (HE.out _).mono ?_
   rintro e w6 ⟨rfl, rfl⟩
   exact hK.out _ _ (GrowsQ.refl _) (rfl) trivial
  refine AK.sc (lim := 0) (lo := 0) rfl rfl rfl rfl ?_ ?_
  ·intro k_ u w_ hk_ hl_ hJ hF K hK
   have h9 : u 9 = .int .i64 c := AK.facts_get hF 9 (by simp)
   have h14 : u 14 = .int .i64 d := AK.facts_get hF 14 (by simp)
   have h19 : u 19 = .int .i64 f := AK.facts_get hF 19 (by simp)
   clear hF
   simp only [h9, h14, h19] at hK ⊢
   clear h9 h14 h19
   go_simp
   have p_ := n3_new w_ 3 c d f
   exact hK.out _ _ (GrowsQ.alloc _ _) ⟨_, rfl, p_⟩ trivial
  refine AK.sc (lim := 0) (lo := 0) rfl rfl rfl rfl ?_ ?_
  ·intro k_ u w_ hk_ hl_ hJ hF K hK
   have h20 : rqP c d f (u 20) w_ := AK.facts_get hF 20 (by simp)
   clear hF
   obtain ⟨b20, h20, p0_, p1_, p2_, lt_⟩ := h20
   simp only [h20] at hK ⊢
   clear h20
   go_simp
   refine (HOR.out _ _ p0_ p1_ p2_).mono ?_
   rintro e w6 ⟨rfl, rfl⟩
   exact hK.out _ _ (GrowsQ.refl _) (rfl) trivial
  refine AK.sc (lim := 0) (lo := 0) rfl rfl rfl rfl ?_ ?_
  ·intro k_ u w_ hk_ hl_ hJ hF K hK
   have h21 : u 21 = .int .i64 r := AK.facts_get hF 21 (by simp)
   clear hF
   simp only [h21] at hK ⊢
   clear h21
   go_simp
   exact hK.out _ _ (GrowsQ.refl _) (rfl) trivial
  exact AK.StepsOk.nil
 ·intro u W9 hJ9 hF
  have h4 : u 4 = .int .i64 r := AK.facts_get hF 4 (by simp [rqL, AK.temps])
  clear hF
  have HJ := Lib.hid hJ9
  clear hJ9
  simp only [h4]
  go_wp2_with fail
  go_ret
  exact ⟨rfl, HG2.out.trans HJ.out⟩
open Go.RowKit Go.Maps Go.Sort Go.Shelf
def rtCelK (k : RK) : List Value := [.string k.1, .int .i64 k.2.1, .int .i64 k.2.2]
theorem rtCells_new (w : World) (t : TypeId) (a b c : Value) : ∀ (j : Nat) (u : Value), [a, b, c][j]? = some u → (w.alloc (.cells #[a, b, c] t)).cell? ((⟨w.heap.size, 0, none⟩ : Addr).add j) = some u := by
 intro j u hj
 match j, hj with
 | 0, hj =>
  simp at hj; subst hj
  unfold World.cell? Addr.add
  rw [if_pos rfl]
  dsimp only
  rw [heap_alloc_new]
  rfl
 | 1, hj =>
  simp at hj; subst hj
  unfold World.cell? Addr.add
  rw [if_neg (by decide)]
  dsimp only
  rw [heap_alloc_new]
  rfl
 | 2, hj =>
  simp at hj; subst hj
  unfold World.cell? Addr.add
  rw [if_neg (by decide)]
  dsimp only
  rw [heap_alloc_new]
  rfl
 | j + 3, hj => simp at hj
theorem rtInfoK : (Try.prog.info? 53).map (fun i => (i.zero, i.size, i.bytes)) = some (some (.agg #[.string ⟨#[]⟩, .int .i64 0, .int .i64 0]), 3, 32) := by kernel_rfl
def rtCollK (D0 : DataW Value) (left : Lit → Bool) (ss : List (RK)) : Prop := ss.Nodup ∧ ∀ k, k ∈ ss ↔ okR k ∧ Maps.has D0 (rlit k) = true ∧ left (rlit k) = false
section
variable {D0 : DataW Value} {left : Lit → Bool} {ss : List (RK)}
theorem rtCollK.start (D0 : DataW Value) : rtCollK D0 (Maps.has D0) [] := ⟨List.nodup_nil, fun k => by cases Maps.has D0 (rlit k) <;> simp⟩
theorem rtCollK.step (h : rtCollK D0 left ss) {x : RK} (hx : okR x) {y : DataW Value} (hlk : left (rlit x) = true) (hat : ∀ zd, D0.atKey (rlit x) zd = y) : rtCollK D0 (fun z => left z && !z.sameKey (rlit x)) (ss ++ [x]) := by
 have hhas : Maps.has D0 (rlit x) = true := has_true_of_atKey hat
 have hno : x ∉ ss := fun hm => by
  have := ((h.2 x).1 hm).2.2
  rw [hlk] at this; cases this
 refine ⟨List.nodup_append.2 ⟨h.1, by simp, fun a ha b hb e => ?_⟩, fun q => ?_⟩
 ·rw [List.mem_singleton] at hb
  subst hb; subst e; exact hno ha
 ·rw [List.mem_append, List.mem_singleton, h.2 q]
  by_cases hq : q = x
  ·subst hq
   have : (rlit q).sameKey (rlit q) = true := WideAt.sameKey_self (rk_keyed.key (rk_key hx))
   simp [this, hhas, hx]
  ·constructor
   ·rintro (⟨h1, h2, h3⟩ | rfl)
    ·exact ⟨h1, h2, by simp [h3]⟩
    ·exact absurd rfl hq
   ·rintro ⟨h1, h2, h3⟩
    have hne : (rlit q).sameKey (rlit x) = false := by
     cases hs : (rlit q).sameKey (rlit x)
     ·rfl
     ·exact absurd (rk_inj h1 hx (WideAt.sameKey_eq hs)) hq
    simp only [hne] at h3
    exact .inl ⟨h1, h2, by simpa using h3⟩
end
set_option maxRecDepth 100000 in
set_option maxHeartbeats 1600000 in
theorem rtKeys1_in (n : Nat) (hn : 1 ≤ n) (l Bm b nn : Nat) (D0 : DataW Value) (J : List (RK) → World → Prop)
  (hY : ∀ pre x W, J pre W → pre.length < Maps.size D0 → YieldAt Fence.wide (n - 1) Try.prog l #[keyV x] W fun e W' => e = .returned (.bool true) ∧ J (pre ++ [x]) W' ∧ KeepsWalks W W')
  (W : World) (hJ : AbidesFrom W.heap.size J) (hm : W.cell? ⟨Bm, 0, none⟩ = some (.map (some b))) (hown : W.ownsMap Try.prog 53 heldP b nn D0) (h0 : J [] W) :
  CallsIn Fence.wide n Try.prog 48 #[.func (.yield l) #[] #[], .pointer (some ⟨Bm, 0, none⟩)] W fun e W' => (∃ v, e = .returned v) ∧ ∃ ss : List (RK), rtCollK D0 (fun _ => false) ss ∧ J ss W' := by
 refine callsIn_of_wp Try.func48 rfl trivial ?_ rfl
 simp only [Try.ntmps48, List.size_toArray, List.length_cons, List.length_nil, Nat.reduceAdd, Nat.reduceSub, Array.replicate_succ, Array.replicate_zero, List.push_toArray, List.append_toArray, List.nil_append, List.cons_append]
 gi_wp2_with (first
  | (gi_at_range; refine wpListIn_range_own _ rfl _ 57 rfl 53 3 rk_keyed Try.underlying57 _ b nn _ rfl hown ?_; intro w0 hrg0 hg0 hs0)
  | gi_in)
 go_frame
 gi_loopw [3] (fun _ wr => ∃ (left : Lit → Bool) (cnt : Nat) (ss : List (RK)), wr.ranges Try.prog 53 heldP b W.heap.size nn D0 left cnt ∧ ss.length + cnt ≤ Maps.size D0 ∧ rtCollK D0 left ss ∧ J ss wr ∧ W.heap.size ≤ wr.heap.size)
  (fun _ wr => wr.rangeLeft b W.heap.size)
 case atStart =>
  exact ⟨_, _, [], hrg0, by simp, rtCollK.start D0, hJ [] W w0 none h0 hg0 (fun r e => by cases e), by omega⟩
 case round =>
  obtain ⟨left, cnt, ss, hrg, hcs, hC, hJs, hsz⟩ := hrel
  gi_wp2_with (first
   | (gi_at_next; refine wpListIn_next_ranges _ rfl _ rfl 53 rk_keyed heldP keyV id (fun key kl hk => by obtain ⟨x, hx, _⟩ := rk_of_key hk; exact ⟨x, hx⟩) (fun v _ _ => ⟨v, rfl⟩) b W.heap.size nn _ _ _ rfl hrg ?_ ?_)
   | gi_in)
  ·intro hc0 hl0
   gi_wp2
   go_end0
   obtain rfl : left = fun _ => false := funext hl0
   exact ⟨⟨_, rfl⟩, ss, hC, hJs⟩
  ·intro x1 x2 x3 c kl yd yp w2 cnt2 hkey hlk hv hv2 hat hrg2 hlt hg2 hs2 hen
   obtain ⟨x', ex, rfl, hok⟩ := rk_of_key hkey
   obtain ⟨y1, y2, y3⟩ := x'
   obtain ⟨rfl, rfl, rfl⟩ : x1 = y1 ∧ x2 = y2 ∧ x3 = y3 := by simpa [keyV] using ex
   have hJ2 : J ss w2 := hJ ss wr w2 (some W.heap.size) hJs hg2 (fun r e => by cases e; exact ⟨Nat.le_refl _, hrg.iter_walk⟩)
   obtain ⟨w3, hw3⟩ : ∃ w3, w2.alloc (.cells #[.string x1, .int .i64 x2, .int .i64 x3] 53) = w3 := ⟨_, rfl⟩
   have hJ3 : J ss w3 := hJ ss w2 w3 none hJ2 (by rw [← hw3]; exact World.grownBy_alloc _ _ none) (fun r e => by cases e)
   have hp3 : K3 w3 w2.heap.size (x1, x2, x3) := by rw [← hw3]; exact k3_new w2 _ (x1, x2, x3)
   obtain ⟨d0, d1, d2, -⟩ := hp3
   dsimp only at d0 d1 d2
   have hrg3 := hrg2.of_walks (by rw [← hw3]; exact KeepsWalks.alloc _ _ : KeepsWalks w2 w3)
   have hs3 : w3.heap.size = w2.heap.size + 1 := by rw [← hw3]; simp
   obtain ⟨fn, tmps, assign, body, hy, hR⟩ := hY ss (x1, x2, x3) w3 hJ3 (by omega)
   have HS2 := Lib.hid hs2
   clear hs2
   gi_wp2
   refine hR.mono ?_
   rintro e W3 ⟨rfl, hJ4, hk3⟩
   gi_wp2
   have hrg4 := hrg3.of_walks hk3
   go_roundw
   case rel => exact ⟨_, cnt2, ss ++ [(x1, x2, x3)], hrg4, by simp; omega, hC.step hok hlk hat, hJ4, by have := hk3.size; have := HS2.out; omega⟩
   case measure => rw [hrg4.left_eq, hrg.left_eq]; exact hlt
theorem rtKeys_gives (n : Nat) (hn : 1 ≤ n) (Bm b nn : Nat) (D0 : DataW Value) (w : World) (hBm : Bm < w.heap.size) (hm : w.cell? ⟨Bm, 0, none⟩ = some (.map (some b))) (hown : w.ownsMap Try.prog 53 heldP b nn D0) :
  SeqGives Fence.wide n Try.prog 48 #[.pointer (some ⟨Bm, 0, none⟩)] keyV (fun ss => rtCollK D0 (fun _ => false) ss) (Maps.size D0) w := fun l J W hW hJ hY h0 => by
 have hown' : W.ownsMap Try.prog 53 heldP b nn D0 := by
  have hbl := hown.lt
  obtain ⟨es, clock, hb, Ft, hs, hD⟩ := hown
  exact ⟨es, clock, (hW.block b hbl).trans hb, Ft, hs, hD⟩
 exact rtKeys1_in n hn l Bm b nn D0 J hY W hJ ((hW.cell (p := ⟨Bm, 0, none⟩) hBm).trans hm) hown' h0

/-! What a round of the collecting loop does. -/
def rtEpAssign : Code := .region 2 #[{ dst := some 5, op := .alloc 53, type := 0, pos := "iter.go:51", after := #[], guard := none }, { dst := none, op := .store 53 (.tmp 5) (.tmp 7), type := 0, pos := "iter.go:51", after := #[{ on := 0, ground := .data }, { on := 0, ground := .phase }], guard := none }] false
def rtEpBody : Code := .block 1 (.region 3 #[{ dst := some 8, op := .load 64 (.tmp 2), type := 64, pos := "iter.go:52", after := #[], guard := none }, { dst := some 9, op := .load 53 (.tmp 5), type := 53, pos := "iter.go:52", after := #[], guard := none }, { dst := some 10, op := .buildSlice 64 1 #[(0, .tmp 9)], type := 64, pos := "iter.go:52", after := #[{ on := 1, ground := .data }], guard := none }, { dst := some 11, op := .call { callee := .builtin .append, args := #[.tmp 8, .tmp 10], argTypes := #[64, 64] }, type := 64, pos := "iter.go:52", after := #[{ on := 0, ground := .data }, { on := 2, ground := .data }], guard := none }, { dst := none, op := .store 64 (.tmp 2) (.tmp 11), type := 0, pos := "iter.go:52", after := #[{ on := 3, ground := .data }, { on := 3, ground := .chain }, { on := 0, ground := .phase }, { on := 1, ground := .phase }, { on := 2, ground := .phase }, { on := 3, ground := .phase }], guard := none }] false)
def rtEpRec (fn : FuncId) (sv : Value) (Bs D : Nat) (st : LoopState) (pend : Option Code) : Loop :=
 { state := st, pending := pend, fn, tmps := #[.slice none 0 0, sv, .pointer (some ⟨Bs, 0, none⟩), undef, .slice none 0 0, undef, sv, undef, undef, undef, undef, undef, undef], params := #[7], assign := rtEpAssign, body := rtEpBody, defers := D }
structure rtEpAt (w0 : World) (fn : FuncId) (sv : Value) (Bs l D : Nat) (ss : List (RK)) (W : World) : Prop where
 box : ∃ v, W.heap[Bs]? = some (.cells #[v] 64 (0, 0)) ∧ W.ownsRow w0.heap.size 53 3 v ss.length (ss.flatMap rtCelK)
 L : W.heap[l]? = some (.loop (rtEpRec fn sv Bs D .ready none))
 K : W.heap[D]? = some (.deferred (some []))
 below : Below w0.heap.size w0 W
theorem rtEp_abides (w0 : World) (fn : FuncId) (sv : Value) (Bs l D B : Nat) (hB : w0.heap.size ≤ B) : AbidesFrom B (rtEpAt w0 fn sv Bs l D) := fun s W W' row h hg hrow => by
 have hrow' : ∀ r, row = some r → ∃ o : Obj, W.heap[r]? = some o ∧ o.isWalk = true := fun r e => (hrow r e).2
 obtain ⟨v, hv, hr⟩ := h.box
 exact ⟨⟨v, (grownBy_keeps hg hrow' hv rfl).trans hv, ownsRow_abides_a hr hg hrow'⟩, (grownBy_keeps hg hrow' h.L rfl).trans h.L, (grownBy_keeps hg hrow' h.K rfl).trans h.K,
  h.below.grown hg h.below.size (fun k e => Nat.le_trans hB (hrow k e).1)⟩
set_option maxRecDepth 100000 in
set_option maxHeartbeats 4000000 in
theorem rtEpYield (m : Nat) (w0 : World) (fn : FuncId) (sv : Value) (Bs l D : Nat) (hBl : Bs ≠ l) (hDl : D ≠ l) (hDB : D ≠ Bs) (h0B : w0.heap.size ≤ Bs) (h0l : w0.heap.size ≤ l)
    (N : Nat) (hN : N ≤ 1000000) (ss : List (RK)) (x : RK) (W : World) (h : rtEpAt w0 fn sv Bs l D ss W) (hlen : ss.length < N) :
    YieldAt Fence.wide m Try.prog l #[keyV x] W fun e W' => e = .returned (.bool true) ∧ rtEpAt w0 fn sv Bs l D (ss ++ [x]) W' ∧ KeepsWalks W W' := by
  have hne : ∀ {t : TypeId} {c d : Array Value} {o o' : Nat × Nat}, t ≠ 53 → Obj.cells c t o ≠ Obj.cells d 53 o' := fun ht e => ht (Obj.cells.inj e).2.1
  obtain ⟨i0, hi, hz0, hz1, hz2⟩ := info_parts rtInfoK
  obtain ⟨v, hv, hrow⟩ := h.box
  refine ⟨fn, #[.slice none 0 0, sv, .pointer (some ⟨Bs, 0, none⟩), undef, .slice none 0 0, undef, sv, keyV x, undef, undef, undef, undef, undef], rtEpAssign, rtEpBody, by simpa [rtEpRec] using run_yield (P := Try.prog) (args := #[keyV x]) h.L rfl, roundIn_of_wpIn trivial ?_⟩
  have hl : l < W.heap.size := (Array.getElem?_eq_some_iff.1 h.L).1
  have hBlt0 : Bs < W.heap.size := (Array.getElem?_eq_some_iff.1 hv).1
  have hDlt0 : D < W.heap.size := (Array.getElem?_eq_some_iff.1 h.K).1
  obtain ⟨B1, hB1⟩ : ∃ B1, W.heap.size = B1 := ⟨_, rfl⟩
  obtain ⟨W2, hW2⟩ : ∃ W2, W.alloc (.cells #[.string x.1, .int .i64 x.2.1, .int .i64 x.2.2] 53) = W2 := ⟨_, rfl⟩
  have hv2 : W2.heap[Bs]? = some (.cells #[v] 64 (0, 0)) := by rw [← hW2]; exact (Below.heap_alloc _ _ Bs hBlt0).trans hv
  have hK2 : W2.heap[D]? = some (.deferred (some [])) := by rw [← hW2]; exact (Below.heap_alloc _ _ D hDlt0).trans h.K
  have hL2 : W2.heap[l]? = some (.loop (rtEpRec fn sv Bs D .ready none)) := by rw [← hW2]; exact (Below.heap_alloc _ _ l hl).trans h.L
  have hrow2 : W2.ownsRow w0.heap.size 53 3 v ss.length (ss.flatMap rtCelK) := by rw [← hW2]; exact World.ownsRow.alloc hrow _
  have hb2 : Below w0.heap.size w0 W2 := by rw [← hW2]; exact h.below.alloc h.below.size _
  have hk2 : KeepsWalks W W2 := by rw [← hW2]; exact KeepsWalks.alloc _ _
  obtain ⟨d0, d1, d2, hBn⟩ : K3 W2 B1 x := by rw [← hW2, ← hB1]; exact k3_new W _ x
  have hl2 : l < W2.heap.size := (Array.getElem?_eq_some_iff.1 hL2).1
  have hlB : l ≠ B1 := by omega
  have hbr := run_beginRound (P := Try.prog) hL2 rfl
  obtain ⟨W3, hW3⟩ : ∃ W3, W2.putObj l (.loop { rtEpRec fn sv Bs D .ready none with state := .busy }) = W3 := ⟨_, rfl⟩
  rw [hW3] at hbr
  have hg3 : W2.grownBy W3 (some l) := by rw [← hW3]; exact grownBy_putObj_a _ _ _
  have hv3 : W3.heap[Bs]? = some (.cells #[v] 64 (0, 0)) := by rw [← hW3]; exact (World.putObj_heap_other hBl).trans hv2
  have hK3 : W3.heap[D]? = some (.deferred (some [])) := by rw [← hW3]; exact (World.putObj_heap_other hDl).trans hK2
  have hL3 : W3.heap[l]? = some (.loop { rtEpRec fn sv Bs D .ready none with state := .busy }) := by rw [← hW3]; exact World.putObj_heap_same hl2
  have hrow3 : W3.ownsRow w0.heap.size 53 3 v ss.length (ss.flatMap rtCelK) := hrow2.kept hg3 (ownsRow_ne_a hrow2 hL2 (fun cur e => by cases e))
  have hb3 : Below w0.heap.size w0 W3 := hb2.grown hg3 hb2.size (fun k e => by cases e; exact h0l)
  have hk3 : KeepsWalks W W3 := by rw [← hW3]; exact hk2.trans (KeepsWalks.putObj _ hL2 rfl)
  replace d0 : W3.cell? ⟨B1, 0, none⟩ = some (.string x.1) := by rw [← d0]; exact World.cell?_of_block (hg3.block B1 hBn (fun e => hlB (by cases e; rfl)))
  replace d1 : W3.cell? ⟨B1, 1, none⟩ = some (.int .i64 x.2.1) := by rw [← d1]; exact World.cell?_of_block (hg3.block B1 hBn (fun e => hlB (by cases e; rfl)))
  replace d2 : W3.cell? ⟨B1, 2, none⟩ = some (.int .i64 x.2.2) := by rw [← d2]; exact World.cell?_of_block (hg3.block B1 hBn (fun e => hlB (by cases e; rfl)))
  have hBlt : Bs < W3.heap.size := (Array.getElem?_eq_some_iff.1 hv3).1
  have hl3 : l < W3.heap.size := (Array.getElem?_eq_some_iff.1 hL3).1
  have hDlt : D < W3.heap.size := (Array.getElem?_eq_some_iff.1 hK3).1
  obtain ⟨hc3, hf3⟩ := cell_of_box_a hv3
  have ne_of : ∀ {j : Nat} {o : Obj}, W3.heap[j]? = some o → (∀ cur, o ≠ .cells cur 53 (0, 0)) → some j ≠ v.ownBlock := fun hj hno => by
    rcases ownsRow_ne_a hrow3 hj hno with e | e
    · rw [e]; simp
    · exact fun e' => e e'.symm
  clear hv2 hK2 hL2 hrow2 hb2 hk2 hg3 hW3
  unfold rtEpAssign
  gi_wp2_with gi_round_op_a
  unfold rtEpBody
  gi_wp2_with (first
    | (gi_at_builtin; refine wpListIn_append_own _ rfl _ _ 64 rfl w0.heap.size 53 i0 (.agg #[.string ⟨#[]⟩, .int .i64 0, .int .i64 0]) 3 32 Try.underlying64 hi hz0 hz1 hz2 rfl (by decide) _ _ _ rfl (World.ownsRow.alloc hrow3 _) ⟨W3.heap.size, 0, none⟩ 1 1 [.string x.1, .int .i64 x.2.1, .int .i64 x.2.2] rfl rfl (rtCells_new _ _ _ _ _) (by simp [Value.oneCell']) (by unfold maxLen; omega) (by omega) (by have := hb3.size; simp; omega) ?_; intro v' w5 hown' hg5 hnil5
       have hv5 : w5.heap[Bs]? = some (.cells #[v] 64 (0, 0)) := (hg5.block Bs (by simp; omega) (ne_of hv3 (fun cur => hne (by decide)))).trans ((Below.heap_alloc _ _ Bs hBlt).trans hv3)
       obtain ⟨hc5, hf5⟩ := cell_of_box_a hv5
       obtain ⟨g', cap', cur', rfl, hbase', hgb', hr1, hr2, hr3, hr4⟩ : ∃ g' cap' cur', v' = .slice (some ⟨g', 0, none⟩) (ss.length + 1) cap' ∧ w0.heap.size ≤ g' ∧ w5.heap[g']? = some (.cells cur' 53 (0, 0)) ∧ ss.length + 1 ≤ cap' ∧ cap' ≤ maxLen ∧ cur'.size = cap' * 3 ∧ cur'.toList.take ((ss.length + 1) * 3) = ss.flatMap rtCelK ++ [.string x.1, .int .i64 x.2.1, .int .i64 x.2.2] := by
         rcases hown'.2 with ⟨_, h0⟩ | h'
         · exact absurd h0 (by omega)
         · exact h'
       go_frame)
    | gi_round_op_a)
  have hg5' : (W3.alloc (.cells #[.string x.1, .int .i64 x.2.1, .int .i64 x.2.2] 53)).grownBy w5 v.ownBlock := hg5
  have hL5 : w5.heap[l]? = some (.loop { rtEpRec fn sv Bs D .ready none with state := .busy }) := (hg5'.block l (by simp; omega) (ne_of hL3 (fun cur e => by cases e))).trans ((Below.heap_alloc _ _ l hl3).trans hL3)
  have hK5 : w5.heap[D]? = some (.deferred (some [])) := (hg5'.block D (by simp; omega) (ne_of hK3 (fun cur e => by cases e))).trans ((Below.heap_alloc _ _ D hDlt).trans hK3)
  obtain ⟨w4, hw4⟩ : ∃ w4, w5.setCell ⟨Bs, 0, none⟩ (.slice (some ⟨g', 0, none⟩) (ss.length + 1) cap') = w4 := ⟨_, rfl⟩
  rw [hw4]
  have hg4 : w5.grownBy w4 (some Bs) := by rw [← hw4]; exact grownBy_setCell0_a _ _ _
  have hv4 : w4.heap[Bs]? = some (.cells #[.slice (some ⟨g', 0, none⟩) (ss.length + 1) cap'] 64 (0, 0)) := by rw [← hw4]; exact heap_setCell_box_a _ hv5
  have hL4 : w4.heap[l]? = some (.loop { rtEpRec fn sv Bs D .ready none with state := .busy }) := (hg4.block l (Array.getElem?_eq_some_iff.1 hL5).1 (fun e => hBl (by cases e; rfl))).trans hL5
  have hK4 : w4.heap[D]? = some (.deferred (some [])) := (hg4.block D (Array.getElem?_eq_some_iff.1 hK5).1 (fun e => hDB (by cases e; rfl))).trans hK5
  have hrow4 := hown'.kept hg4 (ownsRow_ne_a hown' hv5 (fun cur => hne (by decide)))
  have hl4 : l < w4.heap.size := (Array.getElem?_eq_some_iff.1 hL4).1
  have hb5 : Below w0.heap.size w0 w5 := (hb3.alloc hb3.size _).grown hg5' (by have := hb3.size; simp; omega) (fun k e => (World.ownsRow.lt hrow3 k e).1)
  have hb4 : Below w0.heap.size w0 w4 := hb5.grown hg4 hb5.size (fun k e => by cases e; exact h0B)
  have hk4 : KeepsWalks W w4 := ((hk3.trans (KeepsWalks.alloc _ _)).trans (KeepsWalks.of_grownBy hg5' (ownsRow_not_walk_a (World.ownsRow.alloc hrow3 _)))).trans (by rw [← hw4]; exact KeepsWalks.setCell _ _ _)
  clear hw4
  refine ⟨_, _, run_endRound none hL4, rfl, ⟨⟨_, (World.putObj_heap_other hBl).trans hv4, ?_⟩, World.putObj_heap_same hl4, (World.putObj_heap_other hDl).trans hK4, hb4.grown (grownBy_putObj_a _ _ _) hb4.size (fun k e => by cases e; exact h0l)⟩, hk4.trans (KeepsWalks.putObj _ hL4 rfl)⟩
  have := hrow4.kept (grownBy_putObj_a w4 l (.loop { { rtEpRec fn sv Bs D .ready none with state := .busy } with state := if (none : Option Code).isNone then .ready else .done, pending := none })) (ownsRow_ne_a hrow4 hL4 (fun cur e => by cases e))
  rw [List.length_append, List.flatMap_append]
  simpa [rtCelK] using this
end Go.Proofs.Ytihgnnocagfdeaa
namespace Go.Proofs
open Go.Shelf
def Try.sortf47_ren : Go.Shelf.Ren := ⟨fun | 6 => 47 | 15 => 56 | 14 => 55 | 28 => 67 | 29 => 68 | 20 => 59 | 21 => 60 | 22 => 61 | 23 => 62 | 24 => 63 | 25 => 64 | 26 => 65 | 27 => 66 | 46 => 69 | 47 => 70 | 48 => 71 | 49 => 72 | 50 => 73 | 57 => 74 | n => n, fun | 22 => 64 | 24 => 53 | 25 => 69 | 3 => 3 | 39 => 83 | 0 => 0 | 53 => 93 | 55 => 95 | 4 => 4 | 46 => 87 | 45 => 86 | 50 => 27 | 5 => 5 | 9 => 9 | 66 => 96 | 70 => 100 | 76 => 102 | 77 => 103 | n => n, fun | n => n⟩
theorem Try.sortf47 : Go.Proofs.SlLaysF0.n6 Try.prog Try.sortf47_ren := {
 mixed := by kernel_rfl
 f6 := ⟨Try.f47.name, by decide, Try.func47.trans (congrArg some (by kernel_rfl))⟩
 f14 := ⟨Try.f55.name, by decide, Try.func55.trans (congrArg some (by kernel_rfl))⟩
 f15 := Try.func56.trans (congrArg some (by kernel_rfl))
 f20 := ⟨Try.f59.name, by decide, Try.func59.trans (congrArg some (by kernel_rfl))⟩
 f21 := ⟨Try.f60.name, by decide, Try.func60.trans (congrArg some (by kernel_rfl))⟩
 f22 := ⟨Try.f61.name, by decide, Try.func61.trans (congrArg some (by kernel_rfl))⟩
 f23 := ⟨Try.f62.name, by decide, Try.func62.trans (congrArg some (by kernel_rfl))⟩
 f24 := ⟨Try.f63.name, by decide, Try.func63.trans (congrArg some (by kernel_rfl))⟩
 f25 := ⟨Try.f64.name, by decide, Try.func64.trans (congrArg some (by kernel_rfl))⟩
 f26 := ⟨Try.f65.name, by decide, Try.func65.trans (congrArg some (by kernel_rfl))⟩
 f27 := ⟨Try.f66.name, by decide, Try.func66.trans (congrArg some (by kernel_rfl))⟩
 f28 := Try.func67.trans (congrArg some (by kernel_rfl))
 f29 := Try.func68.trans (congrArg some (by kernel_rfl))
 f46 := ⟨Try.f69.name, by decide, Try.func69.trans (congrArg some (by kernel_rfl))⟩
 f47 := Try.func70.trans (congrArg some (by kernel_rfl))
 f48 := Try.func71.trans (congrArg some (by kernel_rfl))
 f49 := ⟨Try.f72.name, by decide, Try.func72.trans (congrArg some (by kernel_rfl))⟩
 f50 := ⟨Try.f73.name, by decide, Try.func73.trans (congrArg some (by kernel_rfl))⟩
 f57 := ⟨Try.f74.name, by decide, Try.func74.trans (congrArg some (by kernel_rfl))⟩
 t0 := Try.underlying0
 a0 := Try.isAgg0
 z0 := Try.sizeOf0
 v0 := Try.zeroValue0
 t3 := Try.underlying3
 a3 := Try.isAgg3
 z3 := Try.sizeOf3
 v3 := Try.zeroValue3
 t4 := Try.underlying4
 a4 := Try.isAgg4
 z4 := Try.sizeOf4
 v4 := Try.zeroValue4
 t5 := Try.underlying5
 a5 := Try.isAgg5
 z5 := Try.sizeOf5
 v5 := Try.zeroValue5
 t9 := Try.underlying9
 a9 := Try.isAgg9
 z9 := Try.sizeOf9
 v9 := Try.zeroValue9
 t22 := Try.underlying64
 a22 := Try.isAgg64
 z22 := Try.sizeOf64
 v22 := Try.zeroValue64
 t25 := Try.underlying69
 a25 := Try.isAgg69
 z25 := Try.sizeOf69
 v25 := Try.zeroValue69
 t39 := Try.underlying83
 a39 := Try.isAgg83
 z39 := Try.sizeOf83
 v39 := Try.zeroValue83
 t45 := Try.underlying86
 a45 := Try.isAgg86
 z45 := Try.sizeOf86
 v45 := Try.zeroValue86
 t46 := Try.underlying87
 a46 := Try.isAgg87
 z46 := Try.sizeOf87
 v46 := Try.zeroValue87
 t50 := Try.underlying27
 a50 := Try.isAgg27
 z50 := Try.sizeOf27
 v50 := Try.zeroValue27
 t53 := Try.underlying93
 a53 := Try.isAgg93
 z53 := Try.sizeOf93
 v53 := Try.zeroValue93
 t55 := Try.underlying95
 a55 := Try.isAgg95
 z55 := Try.sizeOf95
 v55 := Try.zeroValue95
 t66 := Try.underlying96
 a66 := Try.isAgg96
 z66 := Try.sizeOf96
 v66 := Try.zeroValue96
 t70 := Try.underlying100
 a70 := Try.isAgg100
 z70 := Try.sizeOf100
 v70 := Try.zeroValue100
 t76 := Try.underlying102
 a76 := Try.isAgg102
 z76 := Try.sizeOf102
 v76 := Try.zeroValue102
 t77 := Try.underlying103
 a77 := Try.isAgg103
 z77 := Try.sizeOf103
 v77 := Try.zeroValue103 }
end Go.Proofs
namespace Go.Proofs.Ytihgnnocagfdeaa
open Go.RowKit Go.Maps Go.Sort Go.Shelf
set_option maxRecDepth 100000 in
set_option maxHeartbeats 4000000 in
theorem rtAppendSeq (n : Nat) (hn : 2 ≤ n) (g : Nat) (lb : Array Value) (eg : ∀ args w, (callFunc g args).run Try.prog w = .ok (.enter g args) w)
    (S : List (RK) → Prop) (N : Nat) (hN : N ≤ 1000000) (w : World) (hseq : SeqGives Fence.wide (n - 1) Try.prog g lb keyV S N w) :
    CallsIn Fence.wide n Try.prog 54 #[.slice none 0 0, .func (.func g) #[] lb] w fun e w' => ∃ (v : Value) (ss : List (RK)), e = .returned v ∧ S ss ∧ w'.ownsRow w.heap.size 53 3 v ss.length (ss.flatMap rtCelK) ∧ Below w.heap.size w w' := by
  have h1 : 1 ≤ n := by omega
  refine callsIn_of_wp_marks Try.func54 rfl trivial ?_ rfl
  simp only [Try.ntmps54, List.size_toArray, List.length_cons, List.length_nil, Nat.reduceAdd, Nat.reduceSub, Array.replicate_succ, Array.replicate_zero, List.push_toArray, List.append_toArray, List.nil_append, List.cons_append]
  gi_wp2
  refine wpIn_rangeFunc ?_
  intro fn hfn
  obtain ⟨W0, hW0⟩ : ∃ W0, w.alloc (.cells #[.slice none 0 0] 64) = W0 := ⟨_, rfl⟩
  have hs0 : W0.heap.size = w.heap.size + 1 := by rw [← hW0]; simp
  have hv0 : W0.heap[w.heap.size]? = some (.cells #[.slice none 0 0] 64 (0, 0)) := by rw [← hW0]; exact World.alloc_heap_new w _
  have hb0 : Below w.heap.size w W0 := by rw [← hW0]; exact (Below.refl _ w).alloc (Nat.le_refl _) _
  rw [hW0]
  obtain ⟨W1, hW1⟩ : ∃ W1, (W0.alloc (.deferred (some []))).alloc (.loop (rtEpRec fn (.func (.func g) #[] lb) w.heap.size W0.heap.size .ready none)) = W1 := ⟨_, rfl⟩
  have hold : ∀ k, k < W0.heap.size → W1.heap[k]? = W0.heap[k]? := fun k hk => by
    rw [← hW1]; exact (Below.heap_alloc _ _ k (by simp; omega)).trans (Below.heap_alloc _ _ k hk)
  have hb1 : Below w.heap.size w W1 := by rw [← hW1]; exact (hb0.alloc hb0.size _).alloc (by have := hb0.size; simp; omega) _
  have hs1 : W1.heap.size = W0.heap.size + 2 := by rw [← hW1]; simp
  have hM : rtEpAt w fn (.func (.func g) #[] lb) w.heap.size (W0.heap.size + 1) W0.heap.size [] W1 :=
    ⟨⟨_, (hold w.heap.size (by omega)).trans hv0, ⟨rfl, .inl ⟨rfl, rfl⟩⟩⟩,
     by rw [← hW1]; have := World.alloc_heap_new (W0.alloc (.deferred (some []))) (.loop (rtEpRec fn (.func (.func g) #[] lb) w.heap.size W0.heap.size .ready none)); rwa [World.size_alloc] at this,
     by rw [← hW1]; exact (Below.heap_alloc _ _ _ (by simp)).trans (World.alloc_heap_new W0 _), hb1⟩
  refine ⟨W0.heap.size + 1, [{ target := .collected W0.heap.size, args := #[] }], W1, { target := .fn (.func g) lb, args := #[.func (.yield (W0.heap.size + 1)) #[] #[]] }, W1, g,
    #[.func (.yield (W0.heap.size + 1)) #[] #[]] ++ lb, W1, ?_, ?_, ?_, ?_, fun _ => h1, ?_⟩
  · rw [← hW1]; exact run_enterLoop_outer _ _ _ _ _
  · simp [resolve, go_sem]
  · intro f' hf'; trivial
  · simp [invoke, go_sem, eg]
  · refine (hseq (W0.heap.size + 1) (rtEpAt w fn (.func (.func g) #[] lb) w.heap.size (W0.heap.size + 1) W0.heap.size) W1 hb1 (rtEp_abides _ _ _ _ _ _ _ hb1.size)
      (fun pre x W hJ hl => rtEpYield (n - 1 - 1) w fn _ w.heap.size (W0.heap.size + 1) W0.heap.size (by omega) (by omega) (by omega) (Nat.le_refl _) (by omega) N hN pre x W hJ hl) hM).mono ?_
    rintro e W2 ⟨⟨v0, rfl⟩, ss, hS, h2⟩
    obtain ⟨v, hv, hrow⟩ := h2.box
    have hend := run_endLoop (P := Try.prog) h2.L (by simp [rtEpRec])
    obtain ⟨W3, hW3⟩ : ∃ W3, W2.putObj (W0.heap.size + 1) (.loop { rtEpRec fn (.func (.func g) #[] lb) w.heap.size W0.heap.size .ready none with state := .exhausted }) = W3 := ⟨_, rfl⟩
    rw [hW3] at hend
    have hg3 : W2.grownBy W3 (some (W0.heap.size + 1)) := by rw [← hW3]; exact grownBy_putObj_a _ _ _
    have hv3 : W3.heap[w.heap.size]? = some (.cells #[v] 64 (0, 0)) := by rw [← hW3]; exact (World.putObj_heap_other (by omega)).trans hv
    have hK3 : W3.heap[W0.heap.size]? = some (.deferred (some [])) := by rw [← hW3]; exact (World.putObj_heap_other (by omega)).trans h2.K
    have hrow3 := hrow.kept hg3 (ownsRow_ne_a hrow h2.L (fun cur e => by cases e))
    have hb3 : Below w.heap.size w W3 := h2.below.grown hg3 h2.below.size (fun k e => by cases e; omega)
    obtain ⟨hc3, hf3⟩ := cell_of_box_a hv3
    clear hW3
    refine ⟨none, W3, hend, ?_⟩
    gi_wp2
    rw [← hs0]
    refine ⟨by simp, .inl ⟨_, _, rfl, run_takeDeferred hK3, ?_⟩⟩
    exact ⟨_, results_tmp rfl _ _ _, v, ss, rfl, hS, hrow3.kept (grownBy_putObj_a _ _ _) (ownsRow_ne_a hrow3 hK3 (fun cur e => by cases e)), hb3.grown (grownBy_putObj_a _ _ _) hb3.size (fun k e => by cases e; omega)⟩
set_option maxHeartbeats 1000000 in
theorem rtCollect (n : Nat) (hn : 3 ≤ n) (g : Nat) (lb : Array Value) (eg : ∀ args w, (callFunc g args).run Try.prog w = .ok (.enter g args) w)
  (S : List (RK) → Prop) (N : Nat) (hN : N ≤ 1000000) (w : World) (hseq : SeqGives Fence.wide (n - 1 - 1) Try.prog g lb keyV S N w) :
  CallsIn Fence.wide n Try.prog 46 #[.func (.func g) #[] lb] w fun e w' => ∃ (v : Value) (ss : List (RK)), e = .returned v ∧ S ss ∧ w'.ownsRow w.heap.size 53 3 v ss.length (ss.flatMap rtCelK) ∧ Below w.heap.size w w' := by
 refine callsIn_wide.2 ?_
 have hA := Lib.hid ((callsIn_wide (n := n - 1)).1 (rtAppendSeq (n - 1) (by omega) g lb eg S N hN w hseq))
 clear hseq eg
 go_enter Try.func46, Try.ntmps46
 go_wp2_with (go_at_call 54; refine hA.out.mono ?_; rintro e w' ⟨v, ss, rfl, hS, hrow, hb⟩)
 go_ret
 exact ⟨v, ss, rfl, hS, hrow, hb⟩
def lyK : Lay RK := ⟨rtCelK, 3, fun _ => rfl, fun a v hv => by simp [rtCelK] at hv; rcases hv with rfl | rfl | rfl <;> rfl, by decide⟩
theorem rtHoldsK {w : World} {g : Nat} {cur : Array Value} {e : TypeId} {ss : List RK} (hb : w.heap[g]? = some (.cells cur e (0, 0))) (ht : cur.toList.take (ss.length * 3) = ss.flatMap rtCelK) : HoldsK rtCelK 3 w g 0 ss.toArray := by
 intro j hj
 rw [size_flatK] at hj
 have hj' : j < ss.length * 3 := by simpa using hj
 refine ⟨?_, by simp [World.frozen?, hb]⟩
 rw [get_flatK _ _ _ _ hj, Nat.zero_add]
 have key : w.cell? ⟨g, j, none⟩ = (ss.flatMap rtCelK)[j]? := by
  rw [← ht, List.getElem?_take, if_pos hj']
  simp only [World.cell?, hb]
  simp
 rw [key]
 have hq : j / 3 < ss.length := by omega
 have h1 := lyK.get ss (j / 3) _ (List.getElem?_eq_getElem hq) (j % 3) (Nat.mod_lt _ (by decide))
 rw [show lyK.s = 3 from rfl, show j / 3 * 3 + j % 3 = j by omega] at h1
 have hget : (ss.toArray)[j / 3]! = ss[j / 3] := by simp [hq]
 rw [hget]
 refine (show (ss.flatMap rtCelK)[j]? = (rtCelK ss[j / 3])[j % 3]? from h1).trans ?_
 have h3 : j % 3 = 0 ∨ j % 3 = 1 ∨ j % 3 = 2 := by omega
 rcases h3 with h3 | h3 | h3 <;> rw [h3] <;> rfl
theorem rtRow_of {w : World} {g : Nat} {ss : List RK} (h : HoldsK rtCelK 3 w g 0 ss.toArray) (hg : g < w.heap.size) : RowAt lyK w (some ⟨g, 0, none⟩) ss := fun _ => by
 refine ⟨g, 0, rfl, hg, fun j v hj => ?_⟩
 have hjl : j < ss.length * 3 := by
  have := lyK.all_len ss
  rw [show lyK.s = 3 from rfl] at this
  rw [← this]
  exact (List.getElem?_eq_some_iff.1 hj).1
 have hq : j / 3 < ss.length := by omega
 have hq' : j / 3 < ss.toArray.size := by simpa using hq
 have hget : (ss.toArray)[j / 3]! = ss[j / 3] := by simp [hq]
 have h1 := lyK.get ss (j / 3) _ (List.getElem?_eq_getElem hq) (j % 3) (Nat.mod_lt _ (by decide))
 rw [show lyK.s = 3 from rfl, show j / 3 * 3 + j % 3 = j by omega] at h1
 rw [h1] at hj
 have h3 : j % 3 = 0 ∨ j % 3 = 1 ∨ j % 3 = 2 := by omega
 have c_ : ∀ c, c < 3 → w.cell? ⟨g, 0 + (j / 3 * 3 + c), none⟩ = (rtCelK (ss.toArray)[j / 3]!)[c]? := fun c hc => by
  have h4 := (h.cell hq' (c := c) hc).1
  have h5 : c = 0 ∨ c = 1 ∨ c = 2 := by omega
  rw [Nat.zero_add, show j / 3 * 3 + c = 0 + j / 3 * 3 + c by omega]
  rcases h5 with rfl | rfl | rfl <;> exact h4
 have h6 := c_ (j % 3) (Nat.mod_lt _ (by decide))
 rw [hget, show j / 3 * 3 + j % 3 = j by omega] at h6
 exact h6.trans hj
theorem rtSortK_below {α : Type} [Inhabited α] {enc : α → List Value} {k : Nat} {w : World} {blk off n : Nat} {d : Array α} {os : Array Obj} {B : Nat} (hB : B ≤ blk) (hs : B ≤ w.heap.size) : Below B w (sortWorldK enc k w blk off n d os) := by
 unfold sortWorldK putRowK
 have h1 : Below B w (putRow id (Sort.ahead w n) blk off (flatK enc k d)) := by
  refine ⟨rfl, rfl, rfl, by rw [size_putRow]; exact Nat.le_refl _, fun k hk => ?_⟩
  show (w.heap.modify blk _)[k]? = _
  rw [Array.getElem?_modify, if_neg (by omega)]
 exact h1.trans (Lib.below_grow B _ (by rw [size_putRow]; exact hs) 0 os)
theorem rtCmpLays (blk off size : Nat) (w : World) : CmpLays Try.prog 42 #[] rtCelK 3 cmR blk off size w := fun _ _ _ _ x y => kcmp_any x y _
def AscK3 (K : List RK) : Prop := K.Pairwise ltR
theorem rtSort_asc {ss : List RK} (h : ss.Nodup) : AscK3 (ss.mergeSort fun x y => !ltOf cmR y x) := by
 have hp := List.mergeSort_perm ss fun x y => !ltOf cmR y x
 have h1 := List.pairwise_mergeSort (le := fun x y => !ltOf cmR y x) (fun a b c h1 h2 => by
  simp only [Bool.not_eq_true'] at *
  exact cmR_swo.ntrans _ _ _ h2 h1) (fun a b => by
  cases h1 : ltOf cmR b a
  ·rfl
  ·rw [cmR_swo.asymmA h1]; rfl) ss
 have h2 : (ss.mergeSort fun x y => !ltOf cmR y x).Nodup := hp.nodup_iff.2 h
 refine (List.Pairwise.and h1 h2).imp fun {a b} hab => ?_
 obtain ⟨h3, h4⟩ := hab
 simp only [Bool.not_eq_true'] at h3
 have h7 : ¬ cmR b a < 0 := of_decide_eq_false h3
 have h6 : ¬ ltR b a := h7
 rcases Decidable.em (cmR a b < 0) with h5 | h5
 ·exact h5
 ·exact absurd (ltR_tri h5 h6) h4
end Go.Proofs.Ytihgnnocagfdeaa
