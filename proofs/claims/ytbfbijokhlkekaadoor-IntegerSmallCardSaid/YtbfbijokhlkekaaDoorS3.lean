/- Contracts of the functions that the statement reaches, part 3: what was proved of each, callees first. -/
import Derived.Deep.RegionHeld
import Derived.Below
import Derived.Deep.Draws
import Derived.BigRegion
import Derived.Deep.RegionWith
import Derived.Deep.RegionHeld3
import Derived.Deep.CutRange
import Derived.Test.YtbfbijokhlkekaaDoorRows
import Derived.ProofKit
import Derived.LaidMore
import Derived.OpenShut
import Derived.Stop.Joined
import Derived.ChangeSame
import Derived.Lib.LaidTab
import Derived.Test.YtbfbijokhlkekaaDoorS2
/- A region that draws its order, walked once: of each operation is said what its temporary then holds, as a fact that stays true while memory only grows. -/
namespace Go.Proofs.YtbfbijokhlkekaaDoor
open Go Go.RowKit

/-- What may be said of a value: it stays true while memory only grows. -/
structure Fact where
  p : Value → World → Prop
  st : ∀ v w w', Below w.heap.size w w' → p v w → p v w'
def Fact.triv : Fact := ⟨fun _ _ => True, fun _ _ _ _ _ => trivial⟩
def look : List (Nat × Fact) → Nat → Fact
  | [], _ => Fact.triv
  | (k, f) :: rest, d => bif Nat.beq k d then f else look rest d
def temps (FL : List (Nat × Fact)) : List Nat := FL.map (·.1)
def factOf (FL : List (Nat × Fact)) (dst : Option Nat) (v : Value) (w : World) : Prop := match dst with
  | none => True
  | some d => (look FL d).p v w
def Facts (FL : List (Nat × Fact)) (u : Nat → Value) (w : World) : List Nat → Prop
  | [] => True
  | d :: ds => (look FL d).p (u d) w ∧ Facts FL u w ds
theorem facts_mk {FL : List (Nat × Fact)} {u : Nat → Value} {w : World} {ds : List Nat} (h : ∀ d ∈ ds, (look FL d).p (u d) w) : Facts FL u w ds := by
  induction ds with
  | nil => trivial
  | cons d ds ih => exact ⟨h d (List.mem_cons_self ..), ih fun e he => h e (List.mem_cons_of_mem _ he)⟩
theorem facts_get {FL : List (Nat × Fact)} {u : Nat → Value} {w : World} {ds : List Nat} (h : Facts FL u w ds) (d : Nat) (hd : d ∈ ds) : (look FL d).p (u d) w := by
  induction ds with
  | nil => cases hd
  | cons e ds ih =>
    rcases List.mem_cons.1 hd with rfl | hd
    · exact h.1
    · exact ih h.2 hd
/-- The temporaries with the letters u in the places ds. -/
def fillL (u : Nat → Value) : List Nat → Array Value → Array Value
  | [], t => t
  | d :: ds, t => fillL u ds (t.setIfInBounds d (u d))
def upd (u : Nat → Value) (d : Option Nat) (v : Value) (n : Nat) : Value := match d with
  | none => u n
  | some d => if n = d then v else u n
theorem fillL_size (u : Nat → Value) (ds : List Nat) : ∀ t : Array Value, (fillL u ds t).size = t.size := by
  induction ds with
  | nil => intro t; rfl
  | cons d ds ih => intro t; rw [fillL, ih]; simp
theorem fillL_get (u : Nat → Value) (ds : List Nat) : ∀ (t : Array Value) (n : Nat), (fillL u ds t)[n]? = if n < t.size then (if n ∈ ds then some (u n) else t[n]?) else none := by
  induction ds with
  | nil => intro t n; by_cases h : n < t.size <;> simp [fillL, h]
  | cons d ds ih =>
    intro t n
    rw [fillL, ih]
    by_cases h : n < t.size
    · simp only [Array.size_setIfInBounds, h, if_true, List.mem_cons]
      by_cases h1 : n ∈ ds
      · simp [h1]
      · by_cases h2 : n = d
        · subst h2; simp [h1, h]
        · simp only [h1, h2, if_false, or_self]; rw [Array.getElem?_setIfInBounds_ne (Ne.symm h2)]
    · simp [h]
theorem fillL_upd (u : Nat → Value) (ds : List Nat) (t : Array Value) (d : Nat) (v : Value) (hd : d ∈ ds) : (fillL u ds t).setIfInBounds d v = fillL (upd u (some d) v) ds t := by
  apply Array.ext_getElem?
  intro n
  rw [Array.getElem?_setIfInBounds, fillL_get, fillL_get, fillL_size]
  by_cases h : n < t.size
  · by_cases h2 : d = n
    · subst h2; simp [h, hd, upd]
    · simp only [h, h2, if_true, if_false]
      by_cases h3 : n ∈ ds
      · simp [h3, upd, Ne.symm h2]
      · simp [h3]
  · simp only [h, if_false]
    by_cases h2 : d = n
    · subst h2; simp [h]
    · simp [h2]
theorem fillL_self (ds : List Nat) (t : Array Value) : fillL (fun d => t.getD d undef) ds t = t := by
  apply Array.ext_getElem?
  intro n
  rw [fillL_get]
  by_cases h : n < t.size
  · simp [h]
  · simp [h]

/-- Each fact that an operation asks for is that of an operation on which it waits, or is asked for by one; each waits for earlier ones alone; what is written is among the temporaries. -/
def anyChk (ops : Array Oper) (pt : List (List Nat)) (ds : List Nat) : Bool :=
  (List.range ops.size).all fun i => match ops[i]? with
    | none => true
    | some o => (o.after.all fun e => decide (e.on < i)) && (match o.dst with | some d => ds.contains d | none => true) &&
      (pt.getD i []).all fun d => o.after.any fun e => Region.binds .any e && ((match ops[e.on]? with | some o' => o'.dst == some d | none => false) || (pt.getD e.on []).contains d)
def allWritten (ops : Array Oper) (ds : List Nat) : Bool := ds.all fun d => ops.any fun o => o.dst == some d

theorem filter_less {p q : Nat → Bool} {i : Nat} (hpi : p i = true) (hqi : q i = false) (h : ∀ j, q j = true → p j = true) : ∀ l : List Nat, i ∈ l → (l.filter q).length < (l.filter p).length := by
  have hle : ∀ l : List Nat, (l.filter q).length ≤ (l.filter p).length := by
    intro l
    induction l with
    | nil => simp
    | cons x l ih =>
      rw [List.filter_cons, List.filter_cons]
      by_cases hq : q x = true
      · simp [hq, h x hq]; exact ih
      · by_cases hp : p x = true <;> simp [hq, hp] <;> omega
  intro l hl
  induction l with
  | nil => cases hl
  | cons x l ih =>
    rw [List.filter_cons, List.filter_cons]
    rcases List.mem_cons.1 hl with rfl | hl
    · simp [hpi, hqi]; have := hle l; omega
    · have := ih hl
      by_cases hq : q x = true
      · simp [hq, h x hq]; exact this
      · by_cases hp : p x = true <;> simp [hq, hp] <;> omega

section
variable {P : Program} {ops : Array Oper} {Q : Exit → Act → World → Prop} {FL : List (Nat × Fact)} {J : World → Prop} {t0 : Array Value} {df : List Deferred} {ds : List Nat}

/-- One operation: from what it waits for it leaves its own fact. -/
def StepOk (P : Program) (ops : Array Oper) (Q : Exit → Act → World → Prop) (FL : List (Nat × Fact)) (J : World → Prop) (t0 : Array Value) (df : List Deferred) (ds : List Nat) (o : Oper) (need : List Nat) : Prop :=
  ∀ (u : Nat → Value) (w : World), J w → Facts FL u w need → ∀ K : Act → World → Prop, Shut (∀ v w', J w' → Below w.heap.size w w' → factOf FL o.dst v w' → K ((⟨fillL u ds t0, df⟩ : Act).put o.dst v) w') →
    if Region.wanted o (yielded ops (fillL u ds t0)) = true then Oper.wp P o ⟨fillL u ds t0, df⟩ w K Q else K ((⟨fillL u ds t0, df⟩ : Act).put o.dst undef) w
def StepsOk (P : Program) (ops : Array Oper) (Q : Exit → Act → World → Prop) (FL : List (Nat × Fact)) (J : World → Prop) (t0 : Array Value) (df : List Deferred) (ds : List Nat) : List Oper → List (List Nat) → Prop
  | [], _ => True
  | o :: rest, [] => StepOk P ops Q FL J t0 df ds o [] ∧ StepsOk P ops Q FL J t0 df ds rest []
  | o :: rest, n :: ns => StepOk P ops Q FL J t0 df ds o n ∧ StepsOk P ops Q FL J t0 df ds rest ns
theorem steps_at : ∀ (l : List Oper) (pt : List (List Nat)), StepsOk P ops Q FL J t0 df ds l pt → ∀ i o, l[i]? = some o → StepOk P ops Q FL J t0 df ds o (pt.getD i []) := by
  intro l
  induction l with
  | nil => intro pt _ i o h; simp at h
  | cons x l ih =>
    intro pt hs i o h
    cases pt with
    | nil =>
      cases i with
      | zero => simp at h; subst h; exact hs.1
      | succ i => have := ih [] hs.2 i o (by simpa using h); simpa using this
    | cons n ns =>
      cases i with
      | zero => simp at h; subst h; exact hs.1
      | succ i => have := ih ns hs.2 i o (by simpa using h); simpa using this

def Written (ops : Array Oper) (listed : Array Bool) (d : Nat) : Prop := ∃ j o', listed.getD j false = true ∧ ops[j]? = some o' ∧ o'.dst = some d
structure Inv (ops : Array Oper) (FL : List (Nat × Fact)) (J : World → Prop) (t0 : Array Value) (df : List Deferred) (ds : List Nat) (pt : List (List Nat)) (listed : Array Bool) (a : Act) (w : World) : Prop where
  j : J w
  fr : ∃ u, a = ⟨fillL u ds t0, df⟩ ∧ ∀ d, Written ops listed d → (look FL d).p (u d) w
  cl : ∀ i, listed.getD i false = true → ∀ d ∈ pt.getD i [], Written ops listed d
  sz : listed.size = ops.size

theorem Written.more {listed : Array Bool} {d i : Nat} (h : Written ops listed d) : Written ops (listed.setIfInBounds i true) d := by
  obtain ⟨j, o', h1, h2, h3⟩ := h
  exact ⟨j, o', getD_set_true h1, h2, h3⟩

theorem anyChk_spec {pt : List (List Nat)} (h : anyChk ops pt ds = true) {i : Nat} {o : Oper} (ho : ops[i]? = some o) :
    (∀ e ∈ o.after, e.on < i) ∧ (∀ d, o.dst = some d → d ∈ ds) ∧ (∀ d ∈ pt.getD i [], ∃ e ∈ o.after, Region.binds .any e = true ∧ ((∃ o', ops[e.on]? = some o' ∧ o'.dst = some d) ∨ d ∈ pt.getD e.on [])) := by
  have hlt : i < ops.size := (Array.getElem?_eq_some_iff.1 ho).1
  unfold anyChk at h
  rw [List.all_eq_true] at h
  have h1 := h i (List.mem_range.2 hlt)
  rw [ho] at h1
  simp only [Bool.and_eq_true] at h1
  obtain ⟨⟨ha, hb⟩, hc⟩ := h1
  refine ⟨fun e he => ?_, fun d hd => ?_, fun d hd => ?_⟩
  · rw [Array.all_eq_true_iff_forall_mem] at ha
    exact of_decide_eq_true (ha e he)
  · rw [hd] at hb
    simpa using hb
  · rw [List.all_eq_true] at hc
    have h2 := hc d hd
    rw [Array.any_eq_true] at h2
    obtain ⟨k, hk, h3⟩ := h2
    rw [Bool.and_eq_true, Bool.or_eq_true] at h3
    refine ⟨o.after[k], Array.getElem_mem _, h3.1, ?_⟩
    rcases h3.2 with h4 | h4
    · left
      cases h5 : ops[(o.after[k]).on]? with
      | none => rw [h5] at h4; cases h4
      | some o' => rw [h5] at h4; exact ⟨o', rfl, by simpa using h4⟩
    · right; simpa using h4

theorem put_fill (u : Nat → Value) (o : Oper) (v : Value) (hd : ∀ d, o.dst = some d → d ∈ ds) : (⟨fillL u ds t0, df⟩ : Act).put o.dst v = ⟨fillL (upd u o.dst v) ds t0, df⟩ := by
  cases h : o.dst with
  | none => rfl
  | some d =>
    show Act.mk ((fillL u ds t0).setIfInBounds d v) df = _
    rw [fillL_upd _ _ _ _ _ (hd d h)]

theorem inv_step {pt : List (List Nat)} (hchk : anyChk ops pt ds = true) (hs : StepsOk P ops Q FL J t0 df ds ops.toList pt) {listed : Array Bool} {a : Act} {w : World} (hI : Inv ops FL J t0 df ds pt listed a w) {i : Nat} (hi : i ∈ Region.ready .any ops listed) :
    wpOp P ops Q i (Inv ops FL J t0 df ds pt (listed.setIfInBounds i true)) a w := by
  obtain ⟨h0, o, ho, hall⟩ := mem_ready.1 hi
  obtain ⟨c1, c2, c3⟩ := anyChk_spec hchk ho
  obtain ⟨u, rfl, hfac⟩ := hI.fr
  have hlt : i < ops.size := (Array.getElem?_eq_some_iff.1 ho).1
  have hneed : ∀ d ∈ pt.getD i [], Written ops listed d := by
    intro d hd
    obtain ⟨e, he, hb, h1⟩ := c3 d hd
    have h2 := hall e he hb
    rcases h1 with ⟨o', h3, h4⟩ | h3
    · exact ⟨e.on, o', h2, h3, h4⟩
    · exact hI.cl e.on h2 d h3
  have hst := steps_at _ _ hs i o (by simpa using ho) u w hI.j (facts_mk fun d hd => hfac d (hneed d hd))
  refine wpOp_step ho (fun K' hK => hst K' ?_)
  intro v w' hj hb hf
  refine hK _ _ ⟨hj, ⟨upd u o.dst v, put_fill u o v c2, ?_⟩, ?_, by simpa using hI.sz⟩
  · rintro d ⟨j, o', h1, h2, h3⟩
    by_cases hd : o.dst = some d
    · rw [hd] at hf ⊢
      have e : upd u (some d) v d = v := by simp [upd]
      rw [e]; exact hf
    · have hw : Written ops listed d := by
        by_cases hij : i = j
        · subst hij
          rw [ho] at h2
          injection h2 with h2
          subst h2
          exact absurd h3 hd
        · rw [getD_set_ne false hij] at h1
          exact ⟨j, o', h1, h2, h3⟩
      have e : upd u o.dst v d = u d := by
        cases h : o.dst with
        | none => rfl
        | some d' => rw [h] at hd; simp only [upd]; rw [if_neg (fun h => hd (by rw [h]))]
      rw [e]
      exact (look FL d).st _ _ _ hb (hfac d hw)
  · intro k hk d hd
    by_cases hik : i = k
    · subst hik
      exact (hneed d hd).more
    · rw [getD_set_ne false hik] at hk
      exact (hI.cl k hk d hd).more

theorem ready_nil_all {pt : List (List Nat)} (hchk : anyChk ops pt ds = true) {listed : Array Bool} (hsz : listed.size = ops.size) (hr : Region.ready .any ops listed = []) : ∀ n i, i < n → i < ops.size → listed.getD i false = true := by
  intro n
  induction n with
  | zero => intro i h; omega
  | succ n ih =>
    intro i hin hi
    have hil : i < listed.size := by omega
    cases hv : listed.getD i false with
    | true => rfl
    | false =>
      exfalso
      have ho : ops[i]? = some ops[i] := by simp [hi]
      obtain ⟨c1, -, -⟩ := anyChk_spec hchk ho
      have : i ∈ Region.ready .any ops listed := by
        rw [mem_ready]
        refine ⟨by simp [hil] at hv ⊢; exact hv, _, ho, fun e he _ => ?_⟩
        have h1 := c1 e he
        exact ih e.on (by omega) (by omega)
      rw [hr] at this
      cases this

theorem wpAny_inv {pt : List (List Nat)} (hchk : anyChk ops pt ds = true) (hall : allWritten ops ds = true) (hs : StepsOk P ops Q FL J t0 df ds ops.toList pt)
    (hend : ∀ u w, J w → Facts FL u w ds → Q .normal ⟨fillL u ds t0, df⟩ w) :
    ∀ (fuel : Nat) (listed : Array Bool) (a : Act) (w : World), ((List.range ops.size).filter fun j => !listed.getD j true).length ≤ fuel → Inv ops FL J t0 df ds pt listed a w → wpAny P .any ops Q fuel listed a w := by
  have hfin : ∀ (listed : Array Bool) (a : Act) (w : World), Inv ops FL J t0 df ds pt listed a w → Region.ready .any ops listed = [] → Q .normal a w := by
    intro listed a w hI hr
    obtain ⟨u, rfl, hfac⟩ := hI.fr
    refine hend u w hI.j (facts_mk fun d hd => hfac d ?_)
    unfold allWritten at hall
    rw [List.all_eq_true] at hall
    have h1 := hall d hd
    rw [Array.any_eq_true] at h1
    obtain ⟨k, hk, h2⟩ := h1
    exact ⟨k, ops[k], ready_nil_all hchk hI.sz hr (k + 1) k (by omega) hk, by simp [hk], by simpa using h2⟩
  intro fuel
  induction fuel with
  | zero =>
    intro listed a w hc hI
    have hr : Region.ready .any ops listed = [] := by
      rw [List.eq_nil_iff_forall_not_mem]
      intro j hj
      obtain ⟨h0, o, ho, -⟩ := mem_ready.1 hj
      have hlt : j < ops.size := (Array.getElem?_eq_some_iff.1 ho).1
      have hm : j ∈ (List.range ops.size).filter fun j => !listed.getD j true := by
        rw [List.mem_filter]
        exact ⟨List.mem_range.2 hlt, by rw [h0]; rfl⟩
      have := List.length_pos_of_mem hm
      omega
    exact ⟨hr, hfin _ _ _ hI hr⟩
  | succ fuel ih =>
    intro listed a w hc hI
    refine ⟨fun hr => hfin _ _ _ hI hr, fun i hi => ?_⟩
    obtain ⟨h0, o, ho, -⟩ := mem_ready.1 hi
    have hlt : i < ops.size := (Array.getElem?_eq_some_iff.1 ho).1
    refine wpOp_mono (fun a' w' hI' => ih _ a' w' ?_ hI') (inv_step hchk hs hI hi)
    have := filter_less (p := fun j => !listed.getD j true) (q := fun j => !(listed.setIfInBounds i true).getD j true) (i := i) (by simp only [h0]; rfl) (by
      have hil : i < listed.size := by rw [hI.sz]; exact hlt
      simp [hil]) (fun j hj => by
      by_cases hij : i = j
      · subst hij
        exfalso
        have hil : i < listed.size := by rw [hI.sz]; exact hlt
        simp [hil] at hj
      · rw [getD_set_ne true hij] at hj; exact hj) (List.range ops.size) (List.mem_range.2 hlt)
    omega

theorem none_listed (n j : Nat) : (Array.replicate n false).getD j false = false := by
  by_cases h : j < n <;> simp [h]
/-- One operation, the temporaries written out. -/
def StepFr (P : Program) (ops : Array Oper) (Q : Exit → Act → World → Prop) (FL : List (Nat × Fact)) (J : World → Prop) (fr : (Nat → Value) → Array Value) (df : List Deferred) (o : Oper) (need : List Nat) : Prop :=
  ∀ (u : Nat → Value) (w : World), J w → Facts FL u w need → ∀ K : Act → World → Prop, Shut (∀ v w', J w' → Below w.heap.size w w' → factOf FL o.dst v w' → K ((⟨fr u, df⟩ : Act).put o.dst v) w') →
    if Region.wanted o (yielded ops (fr u)) = true then Oper.wp P o ⟨fr u, df⟩ w K Q else K ((⟨fr u, df⟩ : Act).put o.dst undef) w
def StepsFr (P : Program) (ops : Array Oper) (Q : Exit → Act → World → Prop) (FL : List (Nat × Fact)) (J : World → Prop) (fr : (Nat → Value) → Array Value) (df : List Deferred) : List Oper → List (List Nat) → Prop
  | [], _ => True
  | o :: rest, [] => StepFr P ops Q FL J fr df o [] ∧ StepsFr P ops Q FL J fr df rest []
  | o :: rest, n :: ns => StepFr P ops Q FL J fr df o n ∧ StepsFr P ops Q FL J fr df rest ns
theorem StepsFr.nil {fr : (Nat → Value) → Array Value} {pt : List (List Nat)} : StepsFr P ops Q FL J fr df [] pt := by cases pt <;> trivial
theorem StepsFr.cons {fr : (Nat → Value) → Array Value} {o : Oper} {rest : List Oper} {n : List Nat} {ns : List (List Nat)} (h : StepFr P ops Q FL J fr df o n) (hs : StepsFr P ops Q FL J fr df rest ns) : StepsFr P ops Q FL J fr df (o :: rest) (n :: ns) := ⟨h, hs⟩
theorem stepsFr_ok {fr : (Nat → Value) → Array Value} (hfr : ∀ u, fillL u ds t0 = fr u) : ∀ (l : List Oper) (pt : List (List Nat)), StepsFr P ops Q FL J fr df l pt → StepsOk P ops Q FL J t0 df ds l pt := by
  have h1 : ∀ o n, StepFr P ops Q FL J fr df o n → StepOk P ops Q FL J t0 df ds o n := by
    intro o n h u w hJ hF K hK
    rw [hfr] at hK ⊢
    exact h u w hJ hF K hK
  intro l
  induction l with
  | nil => intro pt _; cases pt <;> trivial
  | cons o l ih =>
    intro pt h
    cases pt with
    | nil => exact ⟨h1 _ _ h.1, ih _ h.2⟩
    | cons n ns => exact ⟨h1 _ _ h.1, ih _ h.2⟩
/-- A region that draws its order: each operation once. -/
theorem region_facts {id : Nat} {w : World} {opl : List Oper} (FL : List (Nat × Fact)) (J : World → Prop) (pt : List (List Nat)) {fr : (Nat → Value) → Array Value} (hfr : ∀ u, fillL u (temps FL) t0 = fr u)
    (hm : P.follows .mixedOrders = true) (hchk : anyChk opl.toArray pt (temps FL) = true) (hall : allWritten opl.toArray (temps FL) = true) (hJ : J w.drew)
    (hs : StepsFr P opl.toArray Q FL J fr df opl pt)
    (hend : ∀ u w, J w → Facts FL u w (temps FL) → Q .normal ⟨fr u, df⟩ w) : (Code.region id opl.toArray true).wp P Q ⟨t0, df⟩ w := by
  refine wp_region_any hm (wpAny_inv (ds := temps FL) (t0 := t0) (df := df) hchk hall (stepsFr_ok hfr _ _ hs) (fun u w hj hf => by rw [hfr]; exact hend u w hj hf) opl.toArray.size _ _ _ ?_ ⟨hJ, ⟨fun d => t0.getD d undef, by rw [fillL_self], ?_⟩, ?_, by simp⟩)
  · exact Nat.le_trans (List.length_filter_le _ _) (by simp)
  · rintro d ⟨j, o', h1, -, -⟩
    rw [none_listed] at h1; cases h1
  · intro i hi
    rw [none_listed] at hi; cases hi
end
end Go.Proofs.YtbfbijokhlkekaaDoor

/- 'both' of the statements: two integers of the program and of the reference. -/
namespace Go.Proofs.YtbfbijokhlkekaaDoor
open Go.RowKit

/-- Block b is the box of a struct of two cells. -/
structure Box (w : World) (b : Nat) (x y : Value) : Prop where
  c0 : w.cell? ⟨b, 0, none⟩ = some x
  c1 : w.cell? ⟨b, 1, none⟩ = some y
  hi : ∀ i, w.cell? ⟨b, i + 2, none⟩ = none
  f0 : w.frozen? ⟨b, 0, none⟩ = false
  f1 : w.frozen? ⟨b, 1, none⟩ = false
def setPair (w : World) (b : Nat) (u v : Value) : World := (w.setCell ⟨b, 0, none⟩ u).setCell ⟨b, 1, none⟩ v
section
variable {w w' : World} {b b' B : Nat} {x y u v : Value}
theorem Box.below (h : Box w b x y) (hb : Below B w w') (hB : b < B) : Box w' b x y :=
  ⟨(hb.cell (by exact hB)).trans h.c0, (hb.cell (by exact hB)).trans h.c1, fun i => (hb.cell (by exact hB)).trans (h.hi i), (hb.frozen (by exact hB)).trans h.f0, (hb.frozen (by exact hB)).trans h.f1⟩
theorem Box.store (h : Box w b x y) (u v : Value) : Box (setPair w b u v) b u v := by
  have n1 : (⟨b, 1, none⟩ : Addr) ≠ ⟨b, 0, none⟩ := by simp
  refine ⟨?_, ?_, fun i => ?_, ?_, ?_⟩
  · unfold setPair; rw [World.cell?_setCell_other _ _ _ _ n1]; exact World.cell?_setCell_same _ _ _ h.c0
  · unfold setPair; exact World.cell?_setCell_same _ _ _ (by rw [World.cell?_setCell_other _ _ _ _ n1.symm]; exact h.c1)
  · unfold setPair; rw [World.cell?_setCell_other _ _ _ _ (by simp), World.cell?_setCell_other _ _ _ _ (by simp)]; exact h.hi i
  · unfold setPair; simp [h.f0]
  · unfold setPair; simp [h.f1]
theorem Box.other (h : Box w b x y) (hne : b' ≠ b) (u v : Value) : Box (setPair w b' u v) b x y := by
  have n : ∀ i j : Nat, (⟨b', i, none⟩ : Addr) ≠ ⟨b, j, none⟩ := fun i j e => hne (congrArg Addr.block e)
  refine ⟨?_, ?_, fun i => ?_, ?_, ?_⟩
  · unfold setPair; rw [World.cell?_setCell_other _ _ _ _ (n _ _), World.cell?_setCell_other _ _ _ _ (n _ _)]; exact h.c0
  · unfold setPair; rw [World.cell?_setCell_other _ _ _ _ (n _ _), World.cell?_setCell_other _ _ _ _ (n _ _)]; exact h.c1
  · unfold setPair; rw [World.cell?_setCell_other _ _ _ _ (n _ _), World.cell?_setCell_other _ _ _ _ (n _ _)]; exact h.hi i
  · unfold setPair; simp [h.f0]
  · unfold setPair; simp [h.f1]
theorem Box.new (w : World) (x y : Value) (t : TypeId) : Box (w.alloc (.cells #[x, y] t)) w.heap.size x y := by
  have hh := heap_alloc_new w (.cells #[x, y] t)
  refine ⟨?_, ?_, fun i => ?_, ?_, ?_⟩
  · unfold World.cell?; dsimp only; rw [hh]; rfl
  · unfold World.cell?; dsimp only; rw [hh]; rfl
  · unfold World.cell?; dsimp only; rw [hh]; simp
  · unfold World.frozen?; dsimp only; rw [hh]; simp
  · unfold World.frozen?; dsimp only; rw [hh]; simp
theorem Box.row {k : IntKind} {A : Option Addr} {c : Nat} {L : List Nat} (hbx : Box w b x y) (h : Row k w B A c L) (hx : ∀ n, x ≠ .int k n) (hy : ∀ n, y ≠ .int k n) (u v : Value) : Row k (setPair w b u v) B A c L := by
  refine ⟨h.len, fun hp => ?_⟩
  obtain ⟨b', o, e, hbB, hc⟩ := h.spot hp
  have hne : b ≠ b' := by
    rintro rfl
    have h0 := hc 0 hp
    match o, h0 with
    | 0, h0 => rw [hbx.c0] at h0; exact hx _ (Option.some.inj h0)
    | 1, h0 => rw [hbx.c1] at h0; exact hy _ (Option.some.inj h0)
    | o + 2, h0 => rw [Nat.add_zero, hbx.hi o] at h0; cases h0
  refine ⟨b', o, e, hbB, hc.keep fun j => ?_⟩
  unfold setPair
  rw [World.cell?_setCell_other _ _ _ _ (fun e => hne (congrArg Addr.block e)), World.cell?_setCell_other _ _ _ _ (fun e => hne (congrArg Addr.block e))]
theorem setPair_size (w : World) (b : Nat) (u v : Value) : (setPair w b u v).heap.size = w.heap.size := by unfold setPair; rw [setCell_size, setCell_size]
theorem below_setPair {a : World} (h : Below B a w) (hB : B ≤ b) (u v : Value) : Below B a (setPair w b u v) := (h.setCell (by exact hB) _).setCell (by exact hB) _
end

/-- Four new boxes. -/
theorem four_boxes (w : World) (x0 y0 x1 y1 x2 y2 x3 y3 : Value) (t0 t1 t2 t3 : TypeId) :
    let W := (((w.alloc (.cells #[x0, y0] t0)).alloc (.cells #[x1, y1] t1)).alloc (.cells #[x2, y2] t2)).alloc (.cells #[x3, y3] t3)
    Box W w.heap.size x0 y0 ∧ Box W (w.heap.size + 1) x1 y1 ∧ Box W (w.heap.size + 1 + 1) x2 y2 ∧ Box W (w.heap.size + 1 + 1 + 1) x3 y3 ∧ W.heap.size = w.heap.size + 4 ∧ Below w.heap.size w W := by
  intro W
  have s1 : (w.alloc (.cells #[x0, y0] t0)).heap.size = w.heap.size + 1 := by simp
  have s2 : ((w.alloc (.cells #[x0, y0] t0)).alloc (.cells #[x1, y1] t1)).heap.size = w.heap.size + 1 + 1 := by simp
  have s3 : (((w.alloc (.cells #[x0, y0] t0)).alloc (.cells #[x1, y1] t1)).alloc (.cells #[x2, y2] t2)).heap.size = w.heap.size + 1 + 1 + 1 := by simp
  have b0 := Box.new w x0 y0 t0
  have b1 := Box.new (w.alloc (.cells #[x0, y0] t0)) x1 y1 t1
  have b2 := Box.new ((w.alloc (.cells #[x0, y0] t0)).alloc (.cells #[x1, y1] t1)) x2 y2 t2
  have b3 := Box.new (((w.alloc (.cells #[x0, y0] t0)).alloc (.cells #[x1, y1] t1)).alloc (.cells #[x2, y2] t2)) x3 y3 t3
  have a1 := below_alloc_new (w := w.alloc (.cells #[x0, y0] t0)) (.cells #[x1, y1] t1)
  have a2 := below_alloc_new (w := (w.alloc (.cells #[x0, y0] t0)).alloc (.cells #[x1, y1] t1)) (.cells #[x2, y2] t2)
  have a3 := below_alloc_new (w := ((w.alloc (.cells #[x0, y0] t0)).alloc (.cells #[x1, y1] t1)).alloc (.cells #[x2, y2] t2)) (.cells #[x3, y3] t3)
  rw [s1] at b1 a1
  rw [s2] at b2 a2
  rw [s3] at b3 a3
  refine ⟨((b0.below a1 (by omega)).below a2 (by omega)).below a3 (by omega), (b1.below a2 (by omega)).below a3 (by omega), b2.below a3 (by omega), b3, by simp [W], ?_⟩
  exact (below_a3 w _ _ _).trans (Below.less a3 (by omega))
end Go.Proofs.YtbfbijokhlkekaaDoor

/- 'both' of the statements. -/
namespace Go.Proofs.YtbfbijokhlkekaaDoor
open Go.RowKit

/-- What 'both' returns: two integers of the program, two of the reference, and whether both texts are good. -/
def BothPost (s t : ByteArray) (w : World) (e : Ending) (w' : World) : Prop := ∃ k1 A1 c1 L1 k2 A2 c2 L2 k3 A3 c3 L3 k4 A4 c4 L4 ok,
  e = .returned (.tuple #[.agg #[.bool k1, .slice A1 (List.length L1) c1], .agg #[.bool k2, .slice A2 (List.length L2) c2], .agg #[.bool k3, .slice A3 (List.length L3) c3], .agg #[.bool k4, .slice A4 (List.length L4) c4], .bool ok]) ∧
  IntR w' w'.heap.size k1 A1 c1 L1 ∧ IntR w' w'.heap.size k2 A2 c2 L2 ∧ RefR w' w'.heap.size k3 A3 c3 L3 ∧ RefR w' w'.heap.size k4 A4 c4 L4 ∧
  List.length L1 ≤ 223 ∧ List.length L2 ≤ 223 ∧ List.length L3 ≤ 500 ∧ List.length L4 ≤ 500 ∧
  (ok = true → errOf s.data.toList = 0 ∧ errOf t.data.toList = 0 ∧ k1 = negOf s.data.toList ∧ val9 L1 = numOf (restOf s.data.toList) ∧ k2 = negOf t.data.toList ∧ val9 L2 = numOf (restOf t.data.toList) ∧
    k3 = negOf s.data.toList ∧ valB 10000 L3 = numOf (restOf s.data.toList) ∧ k4 = negOf t.data.toList ∧ valB 10000 L4 = numOf (restOf t.data.toList)) ∧ Below w.heap.size w w'

theorem below_set1 {B b : Nat} {a w : World} (h : Below B a w) (hB : B ≤ b) (i : Nat) (u : Value) : Below B a (w.setCell ⟨b, i, none⟩ u) := h.setCell (by exact hB) _
theorem keep0 (W : World) (b : Nat) (x y : Value) (h : W.cell? ⟨b, 0, none⟩ = some x) : ((W.setCell ⟨b, 0, none⟩ x).setCell ⟨b, 1, none⟩ y).cell? ⟨b, 0, none⟩ = some x := by
  rw [World.cell?_setCell_other _ _ _ _ (by simp)]; exact World.cell?_setCell_same _ _ _ h
theorem keep1 (W : World) (b : Nat) (x y : Value) (h : W.cell? ⟨b, 1, none⟩ = some y) : ((W.setCell ⟨b, 0, none⟩ x).setCell ⟨b, 1, none⟩ y).cell? ⟨b, 1, none⟩ = some y :=
  World.cell?_setCell_same _ _ _ (by rw [World.cell?_setCell_other _ _ _ _ (by simp)]; exact h)

set_option maxRecDepth 20000 in
set_option maxHeartbeats 6400000 in
theorem both_long (s t : ByteArray) (w : World) (h : 600 < s.size ∨ 600 < t.size) : Calls Tryd.prog 22 #[.string s, .string t] w (BothPost s t w) := by
  have hfin : ∀ W, Below w.heap.size w W → BothPost s t w (.returned (.tuple #[.agg #[.bool false, .slice none 0 0], .agg #[.bool false, .slice none 0 0], .agg #[.bool false, .slice none 0 0], .agg #[.bool false, .slice none 0 0], .bool false])) W := fun W hb =>
    ⟨false, none, 0, [], false, none, 0, [], false, none, 0, [], false, none, 0, [], false, rfl, IntR.zero _ _ _ _, IntR.zero _ _ _ _, RefR.zero _ _ _ _, RefR.zero _ _ _ _, by simp, by simp, by simp, by simp, fun h => absurd h Bool.false_ne_true, hb⟩
  have HF := Lib.hid hfin
  clear hfin
  have F := four_boxes w (.bool false) (.slice none 0 0) (.bool false) (.slice none 0 0) (.bool false) (.slice none 0 0) (.bool false) (.slice none 0 0) 25 25 31 31
  by_cases h1 : 600 < s.size
  · clear h
    go_enter Tryd.func22, Tryd.ntmps22
    go_wp2_with fail
    change Code.wp Tryd.prog _ _ _ ((((w.alloc (.cells #[.bool false, .slice none 0 0] 25)).alloc (.cells #[.bool false, .slice none 0 0] 25)).alloc (.cells #[.bool false, .slice none 0 0] 31)).alloc (.cells #[.bool false, .slice none 0 0] 31))
    generalize (((w.alloc (.cells #[.bool false, .slice none 0 0] 25)).alloc (.cells #[.bool false, .slice none 0 0] 25)).alloc (.cells #[.bool false, .slice none 0 0] 31)).alloc (.cells #[.bool false, .slice none 0 0] 31) = W at *
    obtain ⟨b0, b1, b2, b3, hsz, hbw⟩ := F
    have HBW := Lib.hid hbw
    have HSZ := Lib.hid hsz
    clear hbw hsz
    have x0 := b0.c0
    have y0 := b0.c1
    have p0 := b0.f0
    have q0 := b0.f1
    have x1 := b1.c0
    have y1 := b1.c1
    have p1 := b1.f0
    have q1 := b1.f1
    have x2 := b2.c0
    have y2 := b2.c1
    have p2 := b2.f0
    have q2 := b2.f1
    have x3 := b3.c0
    have y3 := b3.c1
    have p3 := b3.f0
    have q3 := b3.f1
    clear b0 b1 b2 b3
    have n1 : ¬ w.heap.size = w.heap.size + 1 + 1 := by omega
    have n2 : ¬ w.heap.size = w.heap.size + 1 + 1 + 1 := by omega
    have n3 : ¬ w.heap.size + 1 = w.heap.size + 1 + 1 + 1 := by omega
    have n4 : ¬ w.heap.size + 1 + 1 = w.heap.size := by omega
    have n5 : ¬ w.heap.size + 1 + 1 + 1 = w.heap.size := by omega
    have n6 : ¬ w.heap.size + 1 + 1 + 1 = w.heap.size + 1 := by omega
    have ks0 := keep0
    have ks1 := keep1
    go_region_held3 (fun w' => w'.cell? ⟨w.heap.size, 0, none⟩ = some (.bool false) ∧ w'.cell? ⟨w.heap.size, 1, none⟩ = some (.slice none 0 0) ∧
        w'.cell? ⟨w.heap.size + 1, 0, none⟩ = some (.bool false) ∧ w'.cell? ⟨w.heap.size + 1, 1, none⟩ = some (.slice none 0 0) ∧
        w'.cell? ⟨w.heap.size + 1 + 1, 0, none⟩ = some (.bool false) ∧ w'.cell? ⟨w.heap.size + 1 + 1, 1, none⟩ = some (.slice none 0 0) ∧
        w'.cell? ⟨w.heap.size + 1 + 1 + 1, 0, none⟩ = some (.bool false) ∧ w'.cell? ⟨w.heap.size + 1 + 1 + 1, 1, none⟩ = some (.slice none 0 0)) (go_keep)
      (fail)
    all_goals
      go_wp2
      refine bodyPost_ret (v := .tuple #[.agg #[.bool false, .slice none 0 0], .agg #[.bool false, .slice none 0 0], .agg #[.bool false, .slice none 0 0], .agg #[.bool false, .slice none 0 0], .bool false]) (by simp [results, Tryd.results22, go_sem, x0, y0, x1, y1, x2, y2, x3, y3]) rfl (HF.out _ ?_)
      repeat (first | (with_reducible exact HBW.out) | (with_reducible refine below_drew ?_) | (with_reducible refine below_drewN ?_ _) | (with_reducible refine below_set1 ?_ ?_ _ _; rotate_left; omega))
  · have h2 : 600 < t.size := by omega
    clear h
    go_enter Tryd.func22, Tryd.ntmps22
    go_wp2_with fail
    change Code.wp Tryd.prog _ _ _ ((((w.alloc (.cells #[.bool false, .slice none 0 0] 25)).alloc (.cells #[.bool false, .slice none 0 0] 25)).alloc (.cells #[.bool false, .slice none 0 0] 31)).alloc (.cells #[.bool false, .slice none 0 0] 31))
    generalize (((w.alloc (.cells #[.bool false, .slice none 0 0] 25)).alloc (.cells #[.bool false, .slice none 0 0] 25)).alloc (.cells #[.bool false, .slice none 0 0] 31)).alloc (.cells #[.bool false, .slice none 0 0] 31) = W at *
    obtain ⟨b0, b1, b2, b3, hsz, hbw⟩ := F
    have HBW := Lib.hid hbw
    have HSZ := Lib.hid hsz
    clear hbw hsz
    have x0 := b0.c0
    have y0 := b0.c1
    have p0 := b0.f0
    have q0 := b0.f1
    have x1 := b1.c0
    have y1 := b1.c1
    have p1 := b1.f0
    have q1 := b1.f1
    have x2 := b2.c0
    have y2 := b2.c1
    have p2 := b2.f0
    have q2 := b2.f1
    have x3 := b3.c0
    have y3 := b3.c1
    have p3 := b3.f0
    have q3 := b3.f1
    clear b0 b1 b2 b3
    have n1 : ¬ w.heap.size = w.heap.size + 1 + 1 := by omega
    have n2 : ¬ w.heap.size = w.heap.size + 1 + 1 + 1 := by omega
    have n3 : ¬ w.heap.size + 1 = w.heap.size + 1 + 1 + 1 := by omega
    have n4 : ¬ w.heap.size + 1 + 1 = w.heap.size := by omega
    have n5 : ¬ w.heap.size + 1 + 1 + 1 = w.heap.size := by omega
    have n6 : ¬ w.heap.size + 1 + 1 + 1 = w.heap.size + 1 := by omega
    have ks0 := keep0
    have ks1 := keep1
    go_region_held3 (fun w' => w'.cell? ⟨w.heap.size, 0, none⟩ = some (.bool false) ∧ w'.cell? ⟨w.heap.size, 1, none⟩ = some (.slice none 0 0) ∧
        w'.cell? ⟨w.heap.size + 1, 0, none⟩ = some (.bool false) ∧ w'.cell? ⟨w.heap.size + 1, 1, none⟩ = some (.slice none 0 0) ∧
        w'.cell? ⟨w.heap.size + 1 + 1, 0, none⟩ = some (.bool false) ∧ w'.cell? ⟨w.heap.size + 1 + 1, 1, none⟩ = some (.slice none 0 0) ∧
        w'.cell? ⟨w.heap.size + 1 + 1 + 1, 0, none⟩ = some (.bool false) ∧ w'.cell? ⟨w.heap.size + 1 + 1 + 1, 1, none⟩ = some (.slice none 0 0)) (go_keep)
      (fail)
    all_goals
      go_wp2
      refine bodyPost_ret (v := .tuple #[.agg #[.bool false, .slice none 0 0], .agg #[.bool false, .slice none 0 0], .agg #[.bool false, .slice none 0 0], .agg #[.bool false, .slice none 0 0], .bool false]) (by simp [results, Tryd.results22, go_sem, x0, y0, x1, y1, x2, y2, x3, y3]) rfl (HF.out _ ?_)
      repeat (first | (with_reducible exact HBW.out) | (with_reducible refine below_drew ?_) | (with_reducible refine below_drewN ?_ _) | (with_reducible refine below_set1 ?_ ?_ _ _; rotate_left; omega))

/-- The four boxes of a call that began in world w. -/
structure St (w W : World) (x0 y0 x1 y1 x2 y2 x3 y3 : Value) : Prop where
  b0 : Box W w.heap.size x0 y0
  b1 : Box W (w.heap.size + 1) x1 y1
  b2 : Box W (w.heap.size + 1 + 1) x2 y2
  b3 : Box W (w.heap.size + 1 + 1 + 1) x3 y3
  bw : Below w.heap.size w W
  sz : w.heap.size + 4 ≤ W.heap.size
section
variable {w W W' : World} {x0 y0 x1 y1 x2 y2 x3 y3 : Value}
theorem St.call (h : St w W x0 y0 x1 y1 x2 y2 x3 y3) (hb : Below W.heap.size W W') : St w W' x0 y0 x1 y1 x2 y2 x3 y3 :=
  ⟨h.b0.below hb (by have := h.sz; omega), h.b1.below hb (by have := h.sz; omega), h.b2.below hb (by have := h.sz; omega), h.b3.below hb (by have := h.sz; omega), h.bw.trans (Below.less hb h.bw.size), Nat.le_trans h.sz hb.size⟩
theorem St.s0 (h : St w W x0 y0 x1 y1 x2 y2 x3 y3) (u v : Value) : St w (setPair W w.heap.size u v) u v x1 y1 x2 y2 x3 y3 :=
  ⟨h.b0.store u v, h.b1.other (by omega) u v, h.b2.other (by omega) u v, h.b3.other (by omega) u v, below_setPair h.bw (Nat.le_refl _) u v, by rw [setPair_size]; exact h.sz⟩
theorem St.s1 (h : St w W x0 y0 x1 y1 x2 y2 x3 y3) (u v : Value) : St w (setPair W (w.heap.size + 1) u v) x0 y0 u v x2 y2 x3 y3 :=
  ⟨h.b0.other (by omega) u v, h.b1.store u v, h.b2.other (by omega) u v, h.b3.other (by omega) u v, below_setPair h.bw (by omega) u v, by rw [setPair_size]; exact h.sz⟩
theorem St.s2 (h : St w W x0 y0 x1 y1 x2 y2 x3 y3) (u v : Value) : St w (setPair W (w.heap.size + 1 + 1) u v) x0 y0 x1 y1 u v x3 y3 :=
  ⟨h.b0.other (by omega) u v, h.b1.other (by omega) u v, h.b2.store u v, h.b3.other (by omega) u v, below_setPair h.bw (by omega) u v, by rw [setPair_size]; exact h.sz⟩
theorem St.s3 (h : St w W x0 y0 x1 y1 x2 y2 x3 y3) (u v : Value) : St w (setPair W (w.heap.size + 1 + 1 + 1) u v) x0 y0 x1 y1 x2 y2 u v :=
  ⟨h.b0.other (by omega) u v, h.b1.other (by omega) u v, h.b2.other (by omega) u v, h.b3.store u v, below_setPair h.bw (by omega) u v, by rw [setPair_size]; exact h.sz⟩
end
theorem IntR.pair {w : World} {b B : Nat} {z : Bool} {a : Option Addr} {n cc : Nat} (hb : Box w b (.bool z) (.slice a n cc)) {k : Bool} {A : Option Addr} {c : Nat} {L : List Nat} (h : IntR w B k A c L) (u v : Value) : IntR (setPair w b u v) B k A c L :=
  ⟨hb.row h.row (fun _ => by simp) (fun _ => by simp) u v, h.canon, h.sgn⟩
theorem RefR.pair {w : World} {b B : Nat} {z : Bool} {a : Option Addr} {n cc : Nat} (hb : Box w b (.bool z) (.slice a n cc)) {k : Bool} {A : Option Addr} {c : Nat} {L : List Nat} (h : RefR w B k A c L) (u v : Value) : RefR (setPair w b u v) B k A c L :=
  ⟨hb.row h.row (fun _ => by simp) (fun _ => by simp) u v, h.lim, h.top, h.sgn⟩
theorem RefR.lift {w w1 : World} {B : Nat} {n : Bool} {A : Option Addr} {c : Nat} {L : List Nat} (h : RefR w B n A c L) (hb : Below w.heap.size w w1) (hB : B ≤ w.heap.size) : RefR w1 w1.heap.size n A c L :=
  ⟨((h.row.more hB).below hb).more hb.size, h.lim, h.top, h.sgn⟩
theorem IntR.lift1 {w w1 : World} {B : Nat} {n : Bool} {A : Option Addr} {c : Nat} {L : List Nat} (h : IntR w B n A c L) (hb : Below w.heap.size w w1) (hB : B ≤ w.heap.size) : IntR w1 w1.heap.size n A c L :=
  ⟨((h.row.more hB).below hb).more hb.size, h.canon, h.sgn⟩

theorem Box.drew {w : World} {b : Nat} {x y : Value} (h : Box w b x y) : Box w.drew b x y := ⟨h.c0, h.c1, h.hi, h.f0, h.f1⟩
theorem IntR.drew {w : World} {B : Nat} {k : Bool} {A : Option Addr} {c : Nat} {L : List Nat} (h : IntR w B k A c L) : IntR w.drew B k A c L := ⟨h.row.drew, h.canon, h.sgn⟩
theorem RefR.drew {w : World} {B : Nat} {k : Bool} {A : Option Addr} {c : Nat} {L : List Nat} (h : RefR w B k A c L) : RefR w.drew B k A c L := ⟨h.row.drew, h.lim, h.top, h.sgn⟩
theorem drew_size (w : World) : w.drew.heap.size = w.heap.size := rfl
theorem St.drew {w W : World} {x0 y0 x1 y1 x2 y2 x3 y3 : Value} (h : St w W x0 y0 x1 y1 x2 y2 x3 y3) : St w W.drew x0 y0 x1 y1 x2 y2 x3 y3 :=
  ⟨h.b0.drew, h.b1.drew, h.b2.drew, h.b3.drew, below_drew h.bw, by rw [drew_size]; exact h.sz⟩
/-- Each box gets back what it held. -/
def lastW (w W : World) (x0 y0 x1 y1 x2 y2 x3 y3 : Value) : World :=
  (setPair (setPair (setPair (setPair W w.heap.size x0 y0) (w.heap.size + 1) x1 y1) (w.heap.size + 1 + 1) x2 y2) (w.heap.size + 1 + 1 + 1) x3 y3).drew
theorem lastW_size (w W : World) (x0 y0 x1 y1 x2 y2 x3 y3 : Value) : (lastW w W x0 y0 x1 y1 x2 y2 x3 y3).heap.size = W.heap.size := by
  unfold lastW
  rw [drew_size, setPair_size, setPair_size, setPair_size, setPair_size]
section
variable {w W : World} {z0 z1 z2 z3 : Bool} {a0 a1 a2 a3 : Option Addr} {n0 n1 n2 n3 m0 m1 m2 m3 : Nat}
theorem St.last (h : St w W (.bool z0) (.slice a0 n0 m0) (.bool z1) (.slice a1 n1 m1) (.bool z2) (.slice a2 n2 m2) (.bool z3) (.slice a3 n3 m3)) :
    St w (lastW w W (.bool z0) (.slice a0 n0 m0) (.bool z1) (.slice a1 n1 m1) (.bool z2) (.slice a2 n2 m2) (.bool z3) (.slice a3 n3 m3)) (.bool z0) (.slice a0 n0 m0) (.bool z1) (.slice a1 n1 m1) (.bool z2) (.slice a2 n2 m2) (.bool z3) (.slice a3 n3 m3) := by
  have h4 := (((h.s0 (.bool z0) (.slice a0 n0 m0)).s1 (.bool z1) (.slice a1 n1 m1)).s2 (.bool z2) (.slice a2 n2 m2)).s3 (.bool z3) (.slice a3 n3 m3)
  unfold lastW
  exact h4.drew
theorem IntR.last (h : St w W (.bool z0) (.slice a0 n0 m0) (.bool z1) (.slice a1 n1 m1) (.bool z2) (.slice a2 n2 m2) (.bool z3) (.slice a3 n3 m3)) {k : Bool} {A : Option Addr} {c : Nat} {L : List Nat} (hi : IntR W W.heap.size k A c L) :
    IntR (lastW w W (.bool z0) (.slice a0 n0 m0) (.bool z1) (.slice a1 n1 m1) (.bool z2) (.slice a2 n2 m2) (.bool z3) (.slice a3 n3 m3)) (lastW w W (.bool z0) (.slice a0 n0 m0) (.bool z1) (.slice a1 n1 m1) (.bool z2) (.slice a2 n2 m2) (.bool z3) (.slice a3 n3 m3)).heap.size k A c L := by
  rw [lastW_size]
  have h0 := h.s0 (.bool z0) (.slice a0 n0 m0)
  have h1 := h0.s1 (.bool z1) (.slice a1 n1 m1)
  have h2 := h1.s2 (.bool z2) (.slice a2 n2 m2)
  have i3 := IntR.pair h2.b3 (IntR.pair h1.b2 (IntR.pair h0.b1 (IntR.pair h.b0 hi (.bool z0) (.slice a0 n0 m0)) (.bool z1) (.slice a1 n1 m1)) (.bool z2) (.slice a2 n2 m2)) (.bool z3) (.slice a3 n3 m3)
  unfold lastW
  exact i3.drew
theorem RefR.last (h : St w W (.bool z0) (.slice a0 n0 m0) (.bool z1) (.slice a1 n1 m1) (.bool z2) (.slice a2 n2 m2) (.bool z3) (.slice a3 n3 m3)) {k : Bool} {A : Option Addr} {c : Nat} {L : List Nat} (hi : RefR W W.heap.size k A c L) :
    RefR (lastW w W (.bool z0) (.slice a0 n0 m0) (.bool z1) (.slice a1 n1 m1) (.bool z2) (.slice a2 n2 m2) (.bool z3) (.slice a3 n3 m3)) (lastW w W (.bool z0) (.slice a0 n0 m0) (.bool z1) (.slice a1 n1 m1) (.bool z2) (.slice a2 n2 m2) (.bool z3) (.slice a3 n3 m3)).heap.size k A c L := by
  rw [lastW_size]
  have h0 := h.s0 (.bool z0) (.slice a0 n0 m0)
  have h1 := h0.s1 (.bool z1) (.slice a1 n1 m1)
  have h2 := h1.s2 (.bool z2) (.slice a2 n2 m2)
  have i3 := RefR.pair h2.b3 (RefR.pair h1.b2 (RefR.pair h0.b1 (RefR.pair h.b0 hi (.bool z0) (.slice a0 n0 m0)) (.bool z1) (.slice a1 n1 m1)) (.bool z2) (.slice a2 n2 m2)) (.bool z3) (.slice a3 n3 m3)
  unfold lastW
  exact i3.drew
end

end Go.Proofs.YtbfbijokhlkekaaDoor

/- 'both' of two texts of at most 600 bytes. -/
namespace Go.Proofs.YtbfbijokhlkekaaDoor
open Go.RowKit

set_option maxRecDepth 20000 in
set_option maxHeartbeats 6400000 in
theorem both_short (s t : ByteArray) (w : World) (hs : s.size ≤ 600) (ht : t.size ≤ 600) : Calls Tryd.prog 22 #[.string s, .string t] w (BothPost s t w) := by
  have F := four_boxes w (.bool false) (.slice none 0 0) (.bool false) (.slice none 0 0) (.bool false) (.slice none 0 0) (.bool false) (.slice none 0 0) 25 25 31 31
  have P1 := Lib.hid (fun W => parse_any s W (by omega))
  have P2 := Lib.hid (fun W => parse_any t W (by omega))
  have R1 := Lib.hid (fun W => rparse_any s W (by omega))
  have R2 := Lib.hid (fun W => rparse_any t W (by omega))
  go_enter Tryd.func22, Tryd.ntmps22
  go_wp2_with fail
  change Calls Tryd.prog 13 #[.string s] ((((w.alloc (.cells #[.bool false, .slice none 0 0] 25)).alloc (.cells #[.bool false, .slice none 0 0] 25)).alloc (.cells #[.bool false, .slice none 0 0] 31)).alloc (.cells #[.bool false, .slice none 0 0] 31)) _
  generalize (((w.alloc (.cells #[.bool false, .slice none 0 0] 25)).alloc (.cells #[.bool false, .slice none 0 0] 25)).alloc (.cells #[.bool false, .slice none 0 0] 31)).alloc (.cells #[.bool false, .slice none 0 0] 31) = W0 at *
  obtain ⟨b0, b1, b2, b3, hsz, hbw⟩ := F
  have S0 : St w W0 _ _ _ _ _ _ _ _ := ⟨b0, b1, b2, b3, hbw, by omega⟩
  clear b0 b1 b2 b3 hsz hbw
  refine (P1.out _).mono ?_
  rintro e w1 ⟨k1, A1, c1, L1, rfl, hi1, hl1, hok1, hno1, hb1⟩
  have S1 := S0.call hb1
  clear S0 hb1
  have x0 := S1.b0.c0
  have y0 := S1.b0.c1
  have p0 := S1.b0.f0
  have q0 := S1.b0.f1
  go_wp2_with fail
  change Calls Tryd.prog 13 #[.string t] (setPair w1 w.heap.size (.bool k1) (.slice A1 (List.length L1) c1)) _
  have S2 := S1.s0 (.bool k1) (.slice A1 (List.length L1) c1)
  have I1 := IntR.pair S1.b0 hi1 (.bool k1) (.slice A1 (List.length L1) c1)
  have hz1 := setPair_size w1 w.heap.size (.bool k1) (.slice A1 (List.length L1) c1)
  generalize setPair w1 w.heap.size (.bool k1) (.slice A1 (List.length L1) c1) = W1 at *
  rw [← hz1] at I1
  clear S1 hi1 x0 y0 p0 q0 hz1
  refine (P2.out _).mono ?_
  rintro e w2 ⟨k2, A2, c2, L2, rfl, hi2, hl2, hok2, hno2, hb2⟩
  have S3 := S2.call hb2
  have I2 := I1.lift1 hb2 (Nat.le_refl _)
  clear S2 hb2 I1
  have x0 := S3.b1.c0
  have y0 := S3.b1.c1
  have p0 := S3.b1.f0
  have q0 := S3.b1.f1
  go_wp2_with fail
  change Calls Tryd.prog 14 #[.string s] (setPair w2 (w.heap.size + 1) (.bool k2) (.slice A2 (List.length L2) c2)) _
  have S4 := S3.s1 (.bool k2) (.slice A2 (List.length L2) c2)
  have I3 := IntR.pair S3.b1 I2 (.bool k2) (.slice A2 (List.length L2) c2)
  have J3 := IntR.pair S3.b1 hi2 (.bool k2) (.slice A2 (List.length L2) c2)
  have hz1 := setPair_size w2 (w.heap.size + 1) (.bool k2) (.slice A2 (List.length L2) c2)
  generalize setPair w2 (w.heap.size + 1) (.bool k2) (.slice A2 (List.length L2) c2) = W2 at *
  rw [← hz1] at I3 J3
  clear S3 hi2 x0 y0 p0 q0 hz1 I2
  refine (R1.out _).mono ?_
  rintro e w3 ⟨k3, A3, c3, L3, rfl, hi3, hl3, hok3, hno3, hb3⟩
  have S5 := S4.call hb3
  have I4 := I3.lift1 hb3 (Nat.le_refl _)
  have J4 := J3.lift1 hb3 (Nat.le_refl _)
  clear S4 hb3 I3 J3
  have x0 := S5.b2.c0
  have y0 := S5.b2.c1
  have p0 := S5.b2.f0
  have q0 := S5.b2.f1
  go_wp2_with fail
  change Calls Tryd.prog 14 #[.string t] (setPair w3 (w.heap.size + 1 + 1) (.bool k3) (.slice A3 (List.length L3) c3)) _
  have S6 := S5.s2 (.bool k3) (.slice A3 (List.length L3) c3)
  have I5 := IntR.pair S5.b2 I4 (.bool k3) (.slice A3 (List.length L3) c3)
  have J5 := IntR.pair S5.b2 J4 (.bool k3) (.slice A3 (List.length L3) c3)
  have M5 := RefR.pair S5.b2 hi3 (.bool k3) (.slice A3 (List.length L3) c3)
  have hz1 := setPair_size w3 (w.heap.size + 1 + 1) (.bool k3) (.slice A3 (List.length L3) c3)
  generalize setPair w3 (w.heap.size + 1 + 1) (.bool k3) (.slice A3 (List.length L3) c3) = W3 at *
  rw [← hz1] at I5 J5 M5
  clear S5 hi3 x0 y0 p0 q0 hz1 I4 J4
  refine (R2.out _).mono ?_
  rintro e w4 ⟨k4, A4, c4, L4, rfl, hi4, hl4, hok4, hno4, hb4⟩
  have S7 := S6.call hb4
  have I6 := I5.lift1 hb4 (Nat.le_refl _)
  have J6 := J5.lift1 hb4 (Nat.le_refl _)
  have M6 := M5.lift hb4 (Nat.le_refl _)
  clear S6 hb4 I5 J5 M5
  have x0 := S7.b3.c0
  have y0 := S7.b3.c1
  have p0 := S7.b3.f0
  have q0 := S7.b3.f1
  go_wp2_with fail
  change Code.wp Tryd.prog _ _ _ (setPair w4 (w.heap.size + 1 + 1 + 1) (.bool k4) (.slice A4 (List.length L4) c4))
  have S8 := S7.s3 (.bool k4) (.slice A4 (List.length L4) c4)
  have I7 := IntR.pair S7.b3 I6 (.bool k4) (.slice A4 (List.length L4) c4)
  have J7 := IntR.pair S7.b3 J6 (.bool k4) (.slice A4 (List.length L4) c4)
  have M7 := RefR.pair S7.b3 M6 (.bool k4) (.slice A4 (List.length L4) c4)
  have N7 := RefR.pair S7.b3 hi4 (.bool k4) (.slice A4 (List.length L4) c4)
  have hz1 := setPair_size w4 (w.heap.size + 1 + 1 + 1) (.bool k4) (.slice A4 (List.length L4) c4)
  generalize setPair w4 (w.heap.size + 1 + 1 + 1) (.bool k4) (.slice A4 (List.length L4) c4) = W4 at *
  rw [← hz1] at I7 J7 M7 N7
  clear S7 x0 y0 p0 q0 hz1 I6 J6 M6 hi4
  have x0 := S8.b0.c0
  have y0 := S8.b0.c1
  have p0 := S8.b0.f0
  have q0 := S8.b0.f1
  have x1 := S8.b1.c0
  have y1 := S8.b1.c1
  have p1 := S8.b1.f0
  have q1 := S8.b1.f1
  have x2 := S8.b2.c0
  have y2 := S8.b2.c1
  have p2 := S8.b2.f0
  have q2 := S8.b2.f1
  have x3 := S8.b3.c0
  have y3 := S8.b3.c1
  have p3 := S8.b3.f0
  have q3 := S8.b3.f1
  have HS8 := Lib.hid S8
  have HI7 := Lib.hid I7
  have HJ7 := Lib.hid J7
  have HM7 := Lib.hid M7
  have HN7 := Lib.hid N7
  clear S8 I7 J7 M7 N7
  have n1 : ¬ w.heap.size = w.heap.size + 1 + 1 := by omega
  have n2 : ¬ w.heap.size = w.heap.size + 1 + 1 + 1 := by omega
  have n3 : ¬ w.heap.size + 1 = w.heap.size + 1 + 1 + 1 := by omega
  have n4 : ¬ w.heap.size + 1 + 1 = w.heap.size := by omega
  have n5 : ¬ w.heap.size + 1 + 1 + 1 = w.heap.size := by omega
  have n6 : ¬ w.heap.size + 1 + 1 + 1 = w.heap.size + 1 := by omega
  have ks0 := keep0
  have ks1 := keep1
  have hpost : ∀ (ok : Bool) (W : World), (ok = true → errOf s.data.toList = 0 ∧ errOf t.data.toList = 0) → St w W (.bool k1) (.slice A1 (List.length L1) c1) (.bool k2) (.slice A2 (List.length L2) c2) (.bool k3) (.slice A3 (List.length L3) c3) (.bool k4) (.slice A4 (List.length L4) c4) →
      IntR W W.heap.size k1 A1 c1 L1 → IntR W W.heap.size k2 A2 c2 L2 → RefR W W.heap.size k3 A3 c3 L3 → RefR W W.heap.size k4 A4 c4 L4 →
      BothPost s t w (.returned (.tuple #[.agg #[.bool k1, .slice A1 (List.length L1) c1], .agg #[.bool k2, .slice A2 (List.length L2) c2], .agg #[.bool k3, .slice A3 (List.length L3) c3], .agg #[.bool k4, .slice A4 (List.length L4) c4], .bool ok])) W := by
    intro ok W hk hS h1 h2 h3 h4
    refine ⟨k1, A1, c1, L1, k2, A2, c2, L2, k3, A3, c3, L3, k4, A4, c4, L4, ok, rfl, h1, h2, h3, h4, hl1, hl2, hl3, hl4, fun h => ?_, hS.bw⟩
    obtain ⟨e1, e2⟩ := hk h
    exact ⟨e1, e2, (hok1.out e1).1, (hok1.out e1).2, (hok2.out e2).1, (hok2.out e2).2, (hok3.out e1).1, (hok3.out e1).2, (hok4.out e2).1, (hok4.out e2).2⟩
  have HP := Lib.hid hpost
  clear hpost hok1 hok2 hok3 hok4 hno1 hno2 hno3 hno4 hl1 hl2 hl3 hl4
  generalize errOf s.data.toList = er1 at *
  generalize errOf t.data.toList = er2 at *
  by_cases h1 : er1 = 0
  · by_cases h2 : er2 = 0
    · subst h1
      subst h2
      go_region_held3 (fun w' => w'.cell? ⟨w.heap.size, 0, none⟩ = some (.bool k1) ∧ w'.cell? ⟨w.heap.size, 1, none⟩ = some (.slice A1 (List.length L1) c1) ∧
        w'.cell? ⟨w.heap.size + 1, 0, none⟩ = some (.bool k2) ∧ w'.cell? ⟨w.heap.size + 1, 1, none⟩ = some (.slice A2 (List.length L2) c2) ∧
        w'.cell? ⟨w.heap.size + 1 + 1, 0, none⟩ = some (.bool k3) ∧ w'.cell? ⟨w.heap.size + 1 + 1, 1, none⟩ = some (.slice A3 (List.length L3) c3) ∧
        w'.cell? ⟨w.heap.size + 1 + 1 + 1, 0, none⟩ = some (.bool k4) ∧ w'.cell? ⟨w.heap.size + 1 + 1 + 1, 1, none⟩ = some (.slice A4 (List.length L4) c4)) (go_keep)
      (fail)
      all_goals
        go_wp2
        refine bodyPost_ret (v := .tuple #[.agg #[.bool k1, .slice A1 (List.length L1) c1], .agg #[.bool k2, .slice A2 (List.length L2) c2], .agg #[.bool k3, .slice A3 (List.length L3) c3], .agg #[.bool k4, .slice A4 (List.length L4) c4], .bool true]) (by simp [results, Tryd.results22, go_sem, x0, y0, x1, y1, x2, y2, x3, y3]) rfl ?_
        exact HP.out true _ (fun _ => ⟨trivial, trivial⟩) (St.last HS8.out) (IntR.last HS8.out HI7.out) (IntR.last HS8.out HJ7.out) (RefR.last HS8.out HM7.out) (RefR.last HS8.out HN7.out)
    · subst h1
      have g2 : ((er2 : Int) == 0) = false := by rw [beq_eq_false_iff_ne]; exact h2
      clear ks0 ks1
      go_region
      all_goals
        go_wp2
        refine bodyPost_ret (v := .tuple #[.agg #[.bool k1, .slice A1 (List.length L1) c1], .agg #[.bool k2, .slice A2 (List.length L2) c2], .agg #[.bool k3, .slice A3 (List.length L3) c3], .agg #[.bool k4, .slice A4 (List.length L4) c4], .bool false]) (by simp [results, Tryd.results22, go_sem, x0, y0, x1, y1, x2, y2, x3, y3]) rfl ?_
        exact HP.out false _ (fun h => absurd h Bool.false_ne_true) (St.last HS8.out) (IntR.last HS8.out HI7.out) (IntR.last HS8.out HJ7.out) (RefR.last HS8.out HM7.out) (RefR.last HS8.out HN7.out)
  · have g1 : ((er1 : Int) == 0) = false := by rw [beq_eq_false_iff_ne]; exact h1
    clear ks0 ks1
    go_region
    all_goals
      go_wp2
      refine bodyPost_ret (v := .tuple #[.agg #[.bool k1, .slice A1 (List.length L1) c1], .agg #[.bool k2, .slice A2 (List.length L2) c2], .agg #[.bool k3, .slice A3 (List.length L3) c3], .agg #[.bool k4, .slice A4 (List.length L4) c4], .bool false]) (by simp [results, Tryd.results22, go_sem, x0, y0, x1, y1, x2, y2, x3, y3]) rfl ?_
      exact HP.out false _ (fun h => absurd h Bool.false_ne_true) (St.last HS8.out) (IntR.last HS8.out HI7.out) (IntR.last HS8.out HJ7.out) (RefR.last HS8.out HM7.out) (RefR.last HS8.out HN7.out)

theorem both_any (s t : ByteArray) (w : World) : Calls Tryd.prog 22 #[.string s, .string t] w (BothPost s t w) := by
  by_cases h1 : 600 < s.size
  · exact both_long s t w (.inl h1)
  · by_cases h2 : 600 < t.size
    · exact both_long s t w (.inr h2)
    · exact both_short s t w (by omega) (by omega)
end Go.Proofs.YtbfbijokhlkekaaDoor

/- IntegerProducts: for every two texts the statement about Mul returns true. -/
namespace Go.Proofs.YtbfbijokhlkekaaDoor
open Go.RowKit

theorem txt_same {w w' : World} {B B' : Nat} {n m : Bool} {A A' : Option Addr} {c c' : Nat} {L M : List Nat} (hL : IntR w B n A c L) (hM : RefR w' B' m A' c' M) (h : zI n L = zR m M) : decI n (val9 L) = decI m (val4 M) := by
  have h1 : n = true → 0 < val9 L := fun h => Nat.pos_of_ne_zero (canon_pos hL.canon (List.length_pos_iff.2 (hL.sgn h)))
  have h2 : m = true → 0 < val4 M := fun h => Nat.pos_of_ne_zero (ref_pos hM (List.length_pos_iff.2 (hM.sgn h)))
  have h3 : n = m ∧ val9 L = val4 M := by
    unfold zI zR at h
    cases n <;> cases m <;> simp at h h1 h2 ⊢ <;> omega
  rw [h3.1, h3.2]
theorem same_true (n m : Bool) (A A' : Option Addr) (c c' : Nat) (L M : List Nat) (w : World) (hl : L.length ≤ 100000) (hml : M.length ≤ 1000000)
    (hL : IntR w w.heap.size n A c L) (hM : RefR w w.heap.size m A' c' M) (hz : zI n L = zR m M) (ht : Tab w.heap.size w) :
    Calls Tryd.prog 17 #[.agg #[.bool n, .slice A L.length c], .agg #[.bool m, .slice A' M.length c']] w fun e w' => e = .returned (.bool true) ∧ Below w.heap.size w w' := by
  have h := same_any n m A A' c c' L M w hl hml hL hM ht
  rw [txt_same hL hM hz, show (decI m (val4 M) == decI m (valB 10000 M)) = true by simp] at h
  exact h
/-- The integer that a good text stands for. -/
def textZ (l : List UInt8) : Int := if negOf l then -(numOf (restOf l) : Int) else (numOf (restOf l) : Int)
theorem textZ_I {l : List UInt8} {k : Bool} {L : List Nat} (h1 : k = negOf l) (h2 : val9 L = numOf (restOf l)) : zI k L = textZ l := by unfold zI textZ; rw [h1, h2]
theorem textZ_R {l : List UInt8} {k : Bool} {L : List Nat} (h1 : k = negOf l) (h2 : valB 10000 L = numOf (restOf l)) : zR k L = textZ l := by unfold zR textZ val4; rw [h1, h2]

set_option maxRecDepth 20000 in
set_option maxHeartbeats 12800000 in
theorem law_products (s t : ByteArray) (w : World) (htab : Tab w.heap.size w) :
    Calls Tryd.prog 6 #[.string s, .string t] w fun e w' => e = .returned (.bool true) ∧ Below w.heap.size w w' := by
  have HT := Lib.hid htab
  have HBO := Lib.hid (fun W => both_any s t W)
  clear htab
  go_enter Tryd.func6, Tryd.ntmps6
  go_wp2_with fail
  refine (awake_any w HT.out).mono ?_
  rintro e w1 ⟨rfl, hb1⟩
  go_wp2_with fail
  refine (HBO.out _).mono ?_
  rintro e w2 ⟨k1, A1, c1, L1, k2, A2, c2, L2, k3, A3, c3, L3, k4, A4, c4, L4, ok, rfl, I1, I2, M1, M2, hl1, hl2, hl3, hl4, hok, hb2⟩
  have hb12 := hb1.trans (Below.less hb2 hb1.size)
  clear hb1 hb2
  have F := four_boxes w2 (.bool k1) (.slice A1 (List.length L1) c1) (.bool k2) (.slice A2 (List.length L2) c2) (.bool k3) (.slice A3 (List.length L3) c3) (.bool k4) (.slice A4 (List.length L4) c4) 25 25 31 31
  cases ok
  · have HB12 := Lib.hid hb12
    clear hb12
    go_wp2_with fail
    go_ret
    exact ⟨rfl, HB12.out.trans (Below.less F.2.2.2.2.2 HB12.out.size)⟩
  · obtain ⟨e1, e2, q1, q2, q3, q4, q5, q6, q7, q8⟩ := hok rfl
    have HZ1 := Lib.hid (textZ_I q1 q2)
    have HZ2 := Lib.hid (textZ_I q3 q4)
    have HZ3 := Lib.hid (textZ_R q5 q6)
    have HZ4 := Lib.hid (textZ_R q7 q8)
    clear hok e1 e2 q1 q2 q3 q4 q5 q6 q7 q8
    go_wp2_with fail
    change Code.wp Tryd.prog _ _ _ ((((w2.alloc (.cells #[.bool k1, .slice A1 (List.length L1) c1] 25)).alloc (.cells #[.bool k2, .slice A2 (List.length L2) c2] 25)).alloc (.cells #[.bool k3, .slice A3 (List.length L3) c3] 31)).alloc (.cells #[.bool k4, .slice A4 (List.length L4) c4] 31))
    generalize (((w2.alloc (.cells #[.bool k1, .slice A1 (List.length L1) c1] 25)).alloc (.cells #[.bool k2, .slice A2 (List.length L2) c2] 25)).alloc (.cells #[.bool k3, .slice A3 (List.length L3) c3] 31)).alloc (.cells #[.bool k4, .slice A4 (List.length L4) c4] 31) = W at *
    obtain ⟨b0, b1, b2, b3, hsz, hbw⟩ := F
    have HI1 := Lib.hid (I1.up hbw)
    have HI2 := Lib.hid (I2.up hbw)
    have HM1 := Lib.hid (M1.up hbw)
    have HM2 := Lib.hid (M2.up hbw)
    have hWw := hb12.trans (Below.less hbw hb12.size)
    have HWW := Lib.hid hWw
    have HTW := Lib.hid (tab_up HT.out hWw)
    have hy0 := b0.c0
    have hy1 := b0.c1
    have hy2 := b1.c0
    have hy3 := b1.c1
    have hy4 := b2.c0
    have hy5 := b2.c1
    have hy6 := b3.c0
    have hy7 := b3.c1
    have hlt0 : w2.heap.size < W.heap.size := by omega
    have hlt1 : w2.heap.size + 1 < W.heap.size := by omega
    have hlt2 : w2.heap.size + 1 + 1 < W.heap.size := by omega
    have hlt3 : w2.heap.size + 1 + 1 + 1 < W.heap.size := by omega
    have HC := Lib.hid (below_drew (Below.refl W.heap.size W))
    clear b0 b1 b2 b3 hsz hbw I1 I2 M1 M2 hb12 hWw
    have hf0 := hy0
    have hf1 := hy1
    have hf2 := hy2
    have hf3 := hy3
    have hf4 := hy4
    have hf5 := hy5
    have hf6 := hy6
    have hf7 := hy7
    go_region_held3 (fun w' => w'.cell? ⟨w2.heap.size, 0, none⟩ = some (.bool k1) ∧ w'.cell? ⟨w2.heap.size, 1, none⟩ = some (.slice A1 (List.length L1) c1) ∧
        w'.cell? ⟨w2.heap.size + 1, 0, none⟩ = some (.bool k2) ∧ w'.cell? ⟨w2.heap.size + 1, 1, none⟩ = some (.slice A2 (List.length L2) c2) ∧
        w'.cell? ⟨w2.heap.size + 1 + 1, 0, none⟩ = some (.bool k3) ∧ w'.cell? ⟨w2.heap.size + 1 + 1, 1, none⟩ = some (.slice A3 (List.length L3) c3) ∧
        w'.cell? ⟨w2.heap.size + 1 + 1 + 1, 0, none⟩ = some (.bool k4) ∧ w'.cell? ⟨w2.heap.size + 1 + 1 + 1, 1, none⟩ = some (.slice A4 (List.length L4) c4)) (go_keep)
      (first
        | (go_at_call 32; (with_reducible refine (mul_any k1 k2 A1 A2 c1 c2 L1 L2 _ (by omega) (by omega) (HI1.out.up HC.out) (HI2.out.up HC.out)).mono ?_); rintro e w4 ⟨kx, Ax, cx, X, rfl, hix, hzx, hlx, hb4⟩; have HX := Lib.hid hix; have HZX := Lib.hid hzx; clear hix hzx; (try (have HY9 := Lib.hid (RefR.up HY.out hb4); clear HY; have HY := HY9; clear HY9)); have HC9 := Lib.hid (below_then HC.out hb4 HC.out.size); clear HC hf0 hf1 hf2 hf3 hf4 hf5 hf6 hf7; have HC := HC9; clear HC9; have hf0 := (below_atB (i := 0) HC.out hlt0).trans hy0; have hf1 := (below_atB (i := 1) HC.out hlt0).trans hy1; have hf2 := (below_atB (i := 0) HC.out hlt1).trans hy2; have hf3 := (below_atB (i := 1) HC.out hlt1).trans hy3; have hf4 := (below_atB (i := 0) HC.out hlt2).trans hy4; have hf5 := (below_atB (i := 1) HC.out hlt2).trans hy5; have hf6 := (below_atB (i := 0) HC.out hlt3).trans hy6; have hf7 := (below_atB (i := 1) HC.out hlt3).trans hy7; clear hb4)
        | (go_at_call 33; (with_reducible refine (rmulI_any k3 k4 A3 A4 c3 c4 L3 L4 _ (by omega) (by omega) (HM1.out.up HC.out) (HM2.out.up HC.out)).mono ?_); rintro e w4 ⟨ky, Ay, cy, Y, rfl, hiy, hzy, hly, hb4⟩; have HY := Lib.hid hiy; have HZY := Lib.hid hzy; clear hiy hzy; (try (have HX9 := Lib.hid (IntR.up HX.out hb4); clear HX; have HX := HX9; clear HX9)); have HC9 := Lib.hid (below_then HC.out hb4 HC.out.size); clear HC hf0 hf1 hf2 hf3 hf4 hf5 hf6 hf7; have HC := HC9; clear HC9; have hf0 := (below_atB (i := 0) HC.out hlt0).trans hy0; have hf1 := (below_atB (i := 1) HC.out hlt0).trans hy1; have hf2 := (below_atB (i := 0) HC.out hlt1).trans hy2; have hf3 := (below_atB (i := 1) HC.out hlt1).trans hy3; have hf4 := (below_atB (i := 0) HC.out hlt2).trans hy4; have hf5 := (below_atB (i := 1) HC.out hlt2).trans hy5; have hf6 := (below_atB (i := 0) HC.out hlt3).trans hy6; have hf7 := (below_atB (i := 1) HC.out hlt3).trans hy7; clear hb4)
        | (go_at_call 17; (first | (with_reducible refine (same_true kx ky Ax Ay cx cy X Y _ (by omega) (by omega) HX.out HY.out (by rw [HZX.out, HZY.out, HZ1.out, HZ2.out, HZ3.out, HZ4.out]) (tab_up HTW.out HC.out)).mono ?_) | (with_reducible refine (same_true k1 k3 A1 A3 c1 c3 L1 L3 _ (by omega) (by omega) (HI1.out.up HC.out) (HM1.out.up HC.out) (by rw [HZ1.out, HZ3.out]) (tab_up HTW.out HC.out)).mono ?_) | (with_reducible refine (same_true k2 k4 A2 A4 c2 c4 L2 L4 _ (by omega) (by omega) (HI2.out.up HC.out) (HM2.out.up HC.out) (by rw [HZ2.out, HZ4.out]) (tab_up HTW.out HC.out)).mono ?_)); rintro e w4 ⟨rfl, hb4⟩; have HC9 := Lib.hid (below_then HC.out hb4 HC.out.size); clear HC hf0 hf1 hf2 hf3 hf4 hf5 hf6 hf7; have HC := HC9; clear HC9; have hf0 := (below_atB (i := 0) HC.out hlt0).trans hy0; have hf1 := (below_atB (i := 1) HC.out hlt0).trans hy1; have hf2 := (below_atB (i := 0) HC.out hlt1).trans hy2; have hf3 := (below_atB (i := 1) HC.out hlt1).trans hy3; have hf4 := (below_atB (i := 0) HC.out hlt2).trans hy4; have hf5 := (below_atB (i := 1) HC.out hlt2).trans hy5; have hf6 := (below_atB (i := 0) HC.out hlt3).trans hy6; have hf7 := (below_atB (i := 1) HC.out hlt3).trans hy7; clear hb4))
    all_goals
      go_wp2
      go_ret
      exact ⟨rfl, HWW.out.trans (Below.less HC.out HWW.out.size)⟩
end Go.Proofs.YtbfbijokhlkekaaDoor

/- Facts of values in a region that draws its order: integers of the program and of the reference, and the calls on them. -/
namespace Go.Proofs.YtbfbijokhlkekaaDoor
open Go.RowKit

/-- The value is the program's integer z, of at most n limbs. -/
def PInt (z : Int) (n : Nat) (v : Value) (w : World) : Prop := ∃ k A c L, v = .agg #[.bool k, .slice A (List.length L) c] ∧ IntR w w.heap.size k A c L ∧ zI k L = z ∧ L.length ≤ n
/-- The value is the reference's integer z, of at most n limbs. -/
def PRef (z : Int) (n : Nat) (v : Value) (w : World) : Prop := ∃ k A c L, v = .agg #[.bool k, .slice A (List.length L) c] ∧ RefR w w.heap.size k A c L ∧ zR k L = z ∧ L.length ≤ n
theorem PInt.up {z : Int} {n : Nat} {v : Value} {w w' : World} (h : PInt z n v w) (hb : Below w.heap.size w w') : PInt z n v w' := by
  obtain ⟨k, A, c, L, h1, h2, h3⟩ := h
  exact ⟨k, A, c, L, h1, h2.up hb, h3⟩
theorem PRef.up {z : Int} {n : Nat} {v : Value} {w w' : World} (h : PRef z n v w) (hb : Below w.heap.size w w') : PRef z n v w' := by
  obtain ⟨k, A, c, L, h1, h2, h3⟩ := h
  exact ⟨k, A, c, L, h1, h2.up hb, h3⟩
theorem PInt.more {z : Int} {n m : Nat} {v : Value} {w : World} (h : PInt z n v w) (hm : n ≤ m) : PInt z m v w := by
  obtain ⟨k, A, c, L, h1, h2, h3, h4⟩ := h
  exact ⟨k, A, c, L, h1, h2, h3, by omega⟩
def Fact.int (z : Int) (n : Nat) : Fact := ⟨PInt z n, fun _ _ _ hb h => h.up hb⟩
def Fact.ref (z : Int) (n : Nat) : Fact := ⟨PRef z n, fun _ _ _ hb h => h.up hb⟩
def Fact.is (x : Value) : Fact := ⟨fun v _ => v = x, fun _ _ _ _ h => h⟩

theorem add_fact {x y : Int} {n m : Nat} {a b : Value} {w : World} (h1 : PInt x n a w) (h2 : PInt y m b w) (hn : n ≤ 500000) (hm : m ≤ 500000) :
    Calls Tryd.prog 24 #[a, b] w fun e w' => ∃ v, e = .returned v ∧ PInt (x + y) (n + m + 1) v w' ∧ Below w.heap.size w w' := by
  obtain ⟨k, A, c, L, rfl, i1, rfl, l1⟩ := h1
  obtain ⟨k', A', c', M, rfl, i2, rfl, l2⟩ := h2
  refine (add_any k k' A A' c c' L M w (by omega) (by omega) i1 i2).mono ?_
  rintro e w' ⟨q, B, d, R, rfl, hi, hz, hl, hb⟩
  exact ⟨_, rfl, ⟨q, B, d, R, rfl, hi, hz, by omega⟩, hb⟩
theorem sub_fact {x y : Int} {n m : Nat} {a b : Value} {w : World} (h1 : PInt x n a w) (h2 : PInt y m b w) (hn : n ≤ 500000) (hm : m ≤ 500000) :
    Calls Tryd.prog 26 #[a, b] w fun e w' => ∃ v, e = .returned v ∧ PInt (x - y) (n + m + 1) v w' ∧ Below w.heap.size w w' := by
  obtain ⟨k, A, c, L, rfl, i1, rfl, l1⟩ := h1
  obtain ⟨k', A', c', M, rfl, i2, rfl, l2⟩ := h2
  refine (sub_any k k' A A' c c' L M w (by omega) (by omega) i1 i2).mono ?_
  rintro e w' ⟨q, B, d, R, rfl, hi, hz, hl, hb⟩
  exact ⟨_, rfl, ⟨q, B, d, R, rfl, hi, hz, by omega⟩, hb⟩
theorem mul_fact {x y : Int} {n m : Nat} {a b : Value} {w : World} (h1 : PInt x n a w) (h2 : PInt y m b w) (hn : n ≤ 500000) (hm : m ≤ 500000) :
    Calls Tryd.prog 32 #[a, b] w fun e w' => ∃ v, e = .returned v ∧ PInt (x * y) (n + m) v w' ∧ Below w.heap.size w w' := by
  obtain ⟨k, A, c, L, rfl, i1, rfl, l1⟩ := h1
  obtain ⟨k', A', c', M, rfl, i2, rfl, l2⟩ := h2
  refine (mul_any k k' A A' c c' L M w (by omega) (by omega) i1 i2).mono ?_
  rintro e w' ⟨q, B, d, R, rfl, hi, hz, hl, hb⟩
  exact ⟨_, rfl, ⟨q, B, d, R, rfl, hi, hz, by omega⟩, hb⟩
theorem neg_fact {x : Int} {n : Nat} {a : Value} {w : World} (h1 : PInt x n a w) (hn : n ≤ 500000) :
    Calls Tryd.prog 28 #[a] w fun e w' => ∃ v, e = .returned v ∧ PInt (-x) n v w' ∧ Below w.heap.size w w' := by
  obtain ⟨k, A, c, L, rfl, i1, rfl, l1⟩ := h1
  refine (neg_any k A c L w (by omega) i1).mono ?_
  rintro e w' ⟨q, B, d, rfl, hi, hz, hb⟩
  exact ⟨_, rfl, ⟨q, B, d, L, rfl, hi, hz, by omega⟩, hb⟩
theorem cmp_fact {x y : Int} {n m : Nat} {a b : Value} {w : World} (h1 : PInt x n a w) (h2 : PInt y m b w) (hn : n ≤ 1000000) (hm : m ≤ 1000000) :
    Calls Tryd.prog 30 #[a, b] w fun e w' => e = .returned (.int .i64 (cmpI x y)) ∧ Below w.heap.size w w' := by
  obtain ⟨k, A, c, L, rfl, i1, rfl, l1⟩ := h1
  obtain ⟨k', A', c', M, rfl, i2, rfl, l2⟩ := h2
  exact cmp_any k k' A A' c c' L M w (by omega) (by omega) i1 i2
theorem sgnI_cmp {w : World} {B : Nat} {n : Bool} {A : Option Addr} {c : Nat} {L : List Nat} (h : IntR w B n A c L) : sgnI n L = cmpI (zI n L) 0 := by
  unfold sgnI zI cmpI
  cases n
  · rcases Nat.eq_zero_or_pos L.length with h0 | h0
    · have : L = [] := List.eq_nil_of_length_eq_zero h0
      subst this; simp [valB]
    · have := canon_pos h.canon h0
      have h1 : ¬ L.length = 0 := by omega
      have h2 : ¬ ((val9 L : Nat) : Int) < 0 := by omega
      have h3 : ¬ ((val9 L : Nat) : Int) = 0 := by omega
      simp only [Bool.false_eq_true, if_false]
      rw [if_neg h1, if_neg h2, if_neg h3]
  · have h1 := List.length_pos_iff.2 (h.sgn rfl)
    have := canon_pos h.canon h1
    have h2 : -((val9 L : Nat) : Int) < 0 := by omega
    simp only [if_true]
    rw [if_pos h2]
theorem sign_fact {x : Int} {n : Nat} {a : Value} {w : World} (h1 : PInt x n a w) :
    Calls Tryd.prog 15 #[a] w fun e w' => e = .returned (.int .i64 (cmpI x 0)) ∧ Below w.heap.size w w' := by
  obtain ⟨k, A, c, L, rfl, i1, rfl, l1⟩ := h1
  rw [← sgnI_cmp i1]
  exact sign_any k A c L w
theorem sign_is {x c : Int} {n : Nat} {a : Value} {w : World} (h1 : PInt x n a w) (hc : cmpI x 0 = c) :
    Calls Tryd.prog 15 #[a] w fun e w' => e = .returned (.int .i64 c) ∧ Below w.heap.size w w' := hc ▸ sign_fact h1
theorem cmp_is {x y c : Int} {n m : Nat} {a b : Value} {w : World} (h1 : PInt x n a w) (h2 : PInt y m b w) (hn : n ≤ 1000000) (hm : m ≤ 1000000) (hc : cmpI x y = c) :
    Calls Tryd.prog 30 #[a, b] w fun e w' => e = .returned (.int .i64 c) ∧ Below w.heap.size w w' := hc ▸ cmp_fact h1 h2 hn hm
theorem equal_fact {x y : Int} {n m : Nat} {a b : Value} {w : World} (h1 : PInt x n a w) (h2 : PInt y m b w) (hn : n ≤ 100000) (hm : m ≤ 100000) (hxy : x = y) (ht : Tab w.heap.size w) :
    Calls Tryd.prog 36 #[a, b] w fun e w' => e = .returned (.bool true) ∧ Below w.heap.size w w' := by
  obtain ⟨k, A, c, L, rfl, i1, rfl, l1⟩ := h1
  obtain ⟨k', A', c', M, rfl, i2, rfl, l2⟩ := h2
  exact equal_true k k' A A' c c' L M w (by omega) (by omega) i1 i2 hxy ht
theorem same_fact {x y : Int} {n m : Nat} {a b : Value} {w : World} (h1 : PInt x n a w) (h2 : PRef y m b w) (hn : n ≤ 100000) (hm : m ≤ 100000) (hxy : x = y) (ht : Tab w.heap.size w) :
    Calls Tryd.prog 17 #[a, b] w fun e w' => e = .returned (.bool true) ∧ Below w.heap.size w w' := by
  obtain ⟨k, A, c, L, rfl, i1, rfl, l1⟩ := h1
  obtain ⟨k', A', c', M, rfl, i2, rfl, l2⟩ := h2
  exact same_true k k' A A' c c' L M w (by omega) (by omega) i1 i2 hxy ht
end Go.Proofs.YtbfbijokhlkekaaDoor

/- 'limbsOf', 'wordOf' and 'Of'. -/
namespace Go.Proofs.YtbfbijokhlkekaaDoor
open Go.RowKit

/-- The limbs of a number. -/
def limbsN (n : Nat) : List Nat := if n = 0 then [] else n % 1000000000 :: limbsN (n / 1000000000)
termination_by n
decreasing_by omega
theorem limbsN_zero : limbsN 0 = [] := by rw [limbsN]; rfl
theorem limbsN_pos {n : Nat} (h : 0 < n) : limbsN n = n % 1000000000 :: limbsN (n / 1000000000) := by rw [limbsN, if_neg (by omega)]
theorem limbsN_val (n : Nat) : val9 (limbsN n) = n := by
  induction n using Nat.strongRecOn with
  | _ n ih =>
    rcases Nat.eq_zero_or_pos n with rfl | h
    · rw [limbsN_zero]; rfl
    · rw [limbsN_pos h]
      have := ih (n / 1000000000) (by omega)
      show n % 1000000000 + 1000000000 * val9 _ = n
      rw [this]; omega
theorem limbsN_canon (n : Nat) : Canon (limbsN n) := by
  induction n using Nat.strongRecOn with
  | _ n ih =>
    rcases Nat.eq_zero_or_pos n with rfl | h
    · rw [limbsN_zero]; exact ⟨fun _ h => absurd h (List.not_mem_nil), fun h => absurd h (Nat.lt_irrefl 0)⟩
    · have i := ih (n / 1000000000) (by omega)
      have e := limbsN_pos h
      rw [e]
      refine ⟨fun d hd => ?_, fun _ => ?_⟩
      · rcases List.mem_cons.1 hd with h1 | h1
        · omega
        · exact i.lim d h1
      · rcases Nat.eq_zero_or_pos (n / 1000000000) with h0 | h0
        · rw [h0, limbsN_zero]; simp [nth]; omega
        · have hl : 0 < (limbsN (n / 1000000000)).length := by rw [limbsN_pos h0]; simp
          have ht := i.top hl
          have : nth (n % 1000000000 :: limbsN (n / 1000000000)) ((n % 1000000000 :: limbsN (n / 1000000000)).length - 1) = nth (limbsN (n / 1000000000)) ((limbsN (n / 1000000000)).length - 1) := by
            generalize limbsN (n / 1000000000) = l at *
            rcases l with _ | ⟨a, r⟩
            · simp at hl
            · simp [nth]
          rw [this]; exact ht
theorem limbsN_len (n : Nat) (h : n < 1000000000000000000000000000) : (limbsN n).length ≤ 3 := by
  rcases Nat.eq_zero_or_pos n with rfl | h1
  · rw [limbsN_zero]; simp
  · rw [limbsN_pos h1]
    rcases Nat.eq_zero_or_pos (n / 1000000000) with h2 | h2
    · rw [h2, limbsN_zero]; simp
    · rw [limbsN_pos h2]
      rcases Nat.eq_zero_or_pos (n / 1000000000 / 1000000000) with h3 | h3
      · rw [h3, limbsN_zero]; simp
      · rw [limbsN_pos h3]
        have : n / 1000000000 / 1000000000 / 1000000000 = 0 := by omega
        rw [this, limbsN_zero]; simp

set_option maxHeartbeats 1600000 in
theorem limbsOf_any (n : Nat) (w : World) (hn : n ≤ 10000000000000000000) :
    Calls Tryd.prog 48 #[.int .u64 n] w fun e w' => ∃ A c, e = .returned (.slice A (limbsN n).length c) ∧ Row .u32 w' w'.heap.size A c (limbsN n) ∧ Below w.heap.size w w' := by
  obtain ⟨i0, hi, hz0, hz1, hz2⟩ := info_parts info68
  have hlen := limbsN_len n (by omega)
  have HLEN := Lib.hid hlen
  clear hlen
  go_enter Tryd.func48, Tryd.ntmps48
  go_wp2
  go_loopw [0, 3] (fun wv lv wr => ∃ (m : Nat) (pre : List Nat), m ≤ n ∧ wv = .int .u64 m ∧ Own .u32 68 wr w.heap.size lv pre ∧ Hid (pre ++ limbsN m = limbsN n) ∧ Below w.heap.size w wr) (fun wv _ _ => (intOf wv).toNat)
  case atStart => exact ⟨n, [], Nat.le_refl _, rfl, Own.nil _ _ _ _, by show _ = _; simp, Below.refl _ _⟩
  case round =>
    obtain ⟨m, pre, hm, rfl, ho, hpre, hbw⟩ := hrel
    have hsz := hbw.size
    rcases Nat.eq_zero_or_pos m with rfl | hpos
    · have hd : decide ((0 : Int) < ((0 : Nat) : Int)) = false := by simp
      have hp := hpre.out
      rw [limbsN_zero, List.append_nil] at hp
      obtain ⟨A, c, hv, hrow⟩ := ho.row
      subst hv
      have HR := Lib.hid hrow
      have HP := Lib.hid hp
      clear hp hrow ho hpre
      go_wp2
      go_ret
      have hpp := HP.out
      exact ⟨A, c, by rw [← hpp]; rfl, by rw [← hpp]; exact HR.out, hbw⟩
    · have hpl : pre.length ≤ 100000000 := by
        have h1 := congrArg List.length hpre.out
        rw [List.length_append] at h1
        have := HLEN.out
        omega
      have HPL := Lib.hid hpl
      have HO := Lib.hid ho
      have hp0 : (0 : Int) < (m : Int) := by omega
      clear hpl ho
      go_wp2_with (at_builtin; refine wpList_append_num wr rfl (.tmp 8) (.tmp 12) 23 rfl .u32 w.heap.size 68 i0 4 Tryd.underlying23 hi hz0 hz1 hz2 (by omega) u3 _ (by rfl) HO.out _ (m % 1000000000) ?_ 1 rfl HPL.out ?_ ?_; (simp); (exact hsz); intro v2 w2 ho2 hb2)
      go_roundw
      case rel =>
        exact ⟨m / 1000000000, pre ++ [m % 1000000000], by omega, by simp, ho2.out, by show _ = _; rw [List.append_assoc]; rw [← hpre.out, limbsN_pos hpos]; rfl, hbw.trans hb2⟩
      case measure => simp [intOf]; omega
end Go.Proofs.YtbfbijokhlkekaaDoor

/- 'wordOf' and 'Of'. -/
namespace Go.Proofs.YtbfbijokhlkekaaDoor
open Go.RowKit

set_option maxHeartbeats 1600000 in
theorem wordOf_any (A : Option Addr) (c : Nat) (L : List Nat) (w : World) (hl : L.length ≤ 1000000) (hv : val9 L ≤ 10000000000000000000) (hR : Row .u32 w w.heap.size A c L) (hL : Lim L) :
    Calls Tryd.prog 49 #[.slice A L.length c] w fun e w' => e = .returned (.int .u64 (val9 L)) ∧ w = w' := by
  have hvd : ∀ k, val9 (L.drop k) ≤ 10000000000000000000 := fun k => by
    have h1 := valB_append 1000000000 (L.take k) (L.drop k)
    rw [List.take_append_drop] at h1
    have h2 : 1 * valB 1000000000 (L.drop k) ≤ 1000000000 ^ (L.take k).length * valB 1000000000 (L.drop k) := Nat.mul_le_mul_right _ (Nat.pow_pos (by omega))
    unfold val9 at *
    omega
  have HVD := Lib.hid hvd
  clear hvd hv
  generalize hn : L.length = n at *
  have HN := Lib.hid hn
  clear hn
  go_enter Tryd.func49, Tryd.ntmps49
  go_wp2
  go_loop [3, 4] (fun wv iv => ∃ (k v : Nat), k ≤ n ∧ iv = .int .i64 ((k : Int) - 1) ∧ wv = .int .u64 v ∧ Hid (v = val9 (L.drop k))) (fun _ iv => (intOf iv + 1).toNat)
  case atStart => exact ⟨n, 0, Nat.le_refl _, rfl, rfl, by show _ = _; rw [List.drop_of_length_le (by rw [HN.out]; exact Nat.le_refl _)]; rfl⟩
  case round =>
    obtain ⟨k, v, hk, rfl, rfl, ht⟩ := hrel
    rcases Nat.eq_zero_or_pos k with rfl | hpos
    · have hd : decide ((0 : Int) ≤ ((0 : Nat) : Int) - 1) = false := by simp
      go_wp2
      go_ret
      have htt := ht.out
      rw [List.drop_zero] at htt
      exact ⟨by rw [htt]; rfl, rfl⟩
    · obtain ⟨m, rfl⟩ : ∃ m, k = m + 1 := ⟨k - 1, by omega⟩
      have h1 : ((0 : Int) ≤ ((m + 1 : Nat) : Int) - 1) := by omega
      obtain ⟨b, o, rfl, _, hcell⟩ := hR.spot (by rw [HN.out]; omega)
      have hc := hcell m (by rw [HN.out]; omega)
      have hd := hL.nth m
      have hst := valB_drop 1000000000 L m (by rw [HN.out]; omega)
      have hbd := HVD.out m
      unfold val9 at hbd
      rw [hst] at hbd
      have htt := ht.out
      unfold val9 at htt
      rw [← htt] at hbd
      have e1 : ((m + 1 : Nat) : Int) - 1 = (m : Int) := by omega
      rw [e1]
      have HST := Lib.hid hst
      clear e1 h1 hcell hst htt
      go_wp2
      go_round
      case rel => exact ⟨m, v * 1000000000 + nth L m, by omega, rfl, by simp, by
        show _ = _
        have h9 := ht.out
        unfold val9 at h9 ⊢
        rw [HST.out, ← h9]; omega⟩
      case measure => simp [intOf]

theorem wrap_neg {n : Int} (h1 : -9223372036854775808 ≤ n) (h2 : n < 0) : IntKind.u64.wrap (-IntKind.u64.wrap n) = -n := by
  simp only [IntKind.wrap, IntKind.signed, IntKind.bits, Bool.false_and, Bool.false_eq_true, if_false]
  omega
set_option maxRecDepth 20000 in
set_option maxHeartbeats 1600000 in
theorem of_any (n : Int) (w : World) (h1 : -9223372036854775808 ≤ n) (h2 : n ≤ 9223372036854775807) :
    Calls Tryd.prog 19 #[.int .i64 n] w fun e w' => ∃ k A c, e = .returned (.agg #[.bool k, .slice A (limbsN n.natAbs).length c]) ∧ IntR w' w'.heap.size k A c (limbsN n.natAbs) ∧ zI k (limbsN n.natAbs) = n ∧ Below w.heap.size w w' := by
  have hLo : ∀ (x : Int), x = (n.natAbs : Int) → ∀ W, Calls Tryd.prog 48 #[.int .u64 x] W fun e w' => ∃ A c, e = .returned (.slice A (limbsN n.natAbs).length c) ∧ Row .u32 w' w'.heap.size A c (limbsN n.natAbs) ∧ Below W.heap.size W w' := by
    intro x hx W
    subst hx
    exact limbsOf_any n.natAbs W (by omega)
  have HLO := Lib.hid hLo
  clear hLo
  have hval := limbsN_val n.natAbs
  have hcan := limbsN_canon n.natAbs
  have hz0 : n.natAbs = 0 → (limbsN n.natAbs).length = 0 := fun h => by rw [h, limbsN_zero]; rfl
  have hzp : 0 < n.natAbs → 0 < (limbsN n.natAbs).length := fun h => by rw [limbsN_pos h]; simp
  by_cases hneg : n < 0
  · have hn : (n.natAbs : Int) = -n := by omega
    go_enter Tryd.func19, Tryd.ntmps19
    go_wp2_with fail
    refine (HLO.out _ (by rw [hn]; exact wrap_neg h1 hneg) _).mono ?_
    rintro e w1 ⟨A, c, rfl, hr1, hb1⟩
    have X := boxed hb1
    have HB1 := Lib.hid X.2.2.2
    have hs1 := X.2.2.1
    clear X hb1
    have HN := Lib.hid hn
    have HZP := Lib.hid (hzp (by omega))
    have HV := Lib.hid hval
    have HCAN := Lib.hid hcan
    clear hn hz0 hzp hval hcan
    go_wp2_with fail
    refine (signed_any _ _ _ _ _).mono ?_
    rintro e w2 ⟨rfl, hb2⟩
    have HR2 := Lib.hid ((hr1.below hb2).more hb2.size)
    have hby := below_then HB1.out hb2 hs1
    have hy0 := (boxed2 hby).1
    have hy1 := (boxed2 hby).2
    have gy0 := boxedF hby 0
    have gy1 := boxedF hby 1
    have HBY := Lib.hid hby
    have hdt : (true && decide (0 < (limbsN n.natAbs).length)) = true := by simpa using HZP.out
    rw [hdt]
    clear hby hb2 hr1 hdt
    go_wp2_with fail
    have hbw : Below w.heap.size w w2 := (below_alloc_new _).trans (Below.less HBY.out (Nat.le_succ _))
    refine bodyPost_ret (v := .agg #[.bool true, .slice A (limbsN n.natAbs).length c]) (by simp [results, Tryd.results19, go_sem, hy0, hy1]) rfl
      ⟨_, _, _, rfl, ?_, ?_, (hbw.setCell (by simp) _).setCell (by simp) _⟩
    · rw [setCell_size, setCell_size]
      exact ⟨HR2.out.box HBY.out (fun _ => by simp) (fun _ => by simp) _ _, HCAN.out, fun _ h => by have := HZP.out; rw [h] at this; simp at this⟩
    · unfold zI
      rw [HV.out]
      have := HN.out
      simp only [if_true]
      omega
  · have hn : (n.natAbs : Int) = n := by omega
    go_enter Tryd.func19, Tryd.ntmps19
    go_wp2_with fail
    refine (HLO.out _ hn.symm _).mono ?_
    rintro e w1 ⟨A, c, rfl, hr1, hb1⟩
    have X := boxed hb1
    have HB1 := Lib.hid X.2.2.2
    have hs1 := X.2.2.1
    clear X hb1
    have HN := Lib.hid hn
    have HV := Lib.hid hval
    have HCAN := Lib.hid hcan
    clear hn hz0 hzp hval hcan
    go_wp2_with fail
    refine (signed_any _ _ _ _ _).mono ?_
    rintro e w2 ⟨rfl, hb2⟩
    have HR2 := Lib.hid ((hr1.below hb2).more hb2.size)
    have hby := below_then HB1.out hb2 hs1
    have hy0 := (boxed2 hby).1
    have hy1 := (boxed2 hby).2
    have gy0 := boxedF hby 0
    have gy1 := boxedF hby 1
    have HBY := Lib.hid hby
    have hdt : (false && decide (0 < (limbsN n.natAbs).length)) = false := rfl
    rw [hdt]
    clear hby hb2 hr1 hdt
    go_wp2_with fail
    have hbw : Below w.heap.size w w2 := (below_alloc_new _).trans (Below.less HBY.out (Nat.le_succ _))
    refine bodyPost_ret (v := .agg #[.bool false, .slice A (limbsN n.natAbs).length c]) (by simp [results, Tryd.results19, go_sem, hy0, hy1]) rfl
      ⟨_, _, _, rfl, ?_, ?_, (hbw.setCell (by simp) _).setCell (by simp) _⟩
    · rw [setCell_size, setCell_size]
      exact ⟨HR2.out.box HBY.out (fun _ => by simp) (fun _ => by simp) _ _, HCAN.out, fun h => absurd h Bool.false_ne_true⟩
    · unfold zI
      rw [HV.out]
      simp only [Bool.false_eq_true, if_false]
      exact HN.out
end Go.Proofs.YtbfbijokhlkekaaDoor

/- 'Small' of the program. -/
namespace Go.Proofs.YtbfbijokhlkekaaDoor
open Go.RowKit

def minI : Int := -9223372036854775808
def maxI : Int := 9223372036854775807
/-- 'Of' at a constant, for the walk. -/
theorem of_min (w : World) : Calls Tryd.prog 19 #[.int .i64 (-9223372036854775808)] w fun e w' => ∃ k A c M, e = .returned (.agg #[.bool k, .slice A (List.length M) c]) ∧ IntR w' w'.heap.size k A c M ∧ zI k M = minI ∧ List.length M ≤ 3 ∧ Below w.heap.size w w' := by
  refine (of_any (-9223372036854775808) w (by omega) (by omega)).mono ?_
  rintro e w' ⟨k, A, c, h1, h2, h3, h4⟩
  exact ⟨k, A, c, _, h1, h2, h3, limbsN_len _ (by decide), h4⟩
theorem of_max (w : World) : Calls Tryd.prog 19 #[.int .i64 9223372036854775807] w fun e w' => ∃ k A c M, e = .returned (.agg #[.bool k, .slice A (List.length M) c]) ∧ IntR w' w'.heap.size k A c M ∧ zI k M = maxI ∧ List.length M ≤ 3 ∧ Below w.heap.size w w' := by
  refine (of_any 9223372036854775807 w (by omega) (by omega)).mono ?_
  rintro e w' ⟨k, A, c, h1, h2, h3, h4⟩
  exact ⟨k, A, c, _, h1, h2, h3, limbsN_len _ (by decide), h4⟩

set_option maxRecDepth 20000 in
set_option maxHeartbeats 6400000 in
theorem small_below (n : Bool) (A : Option Addr) (c : Nat) (L : List Nat) (w : World) (hl : L.length ≤ 100000) (hL : IntR w w.heap.size n A c L) (hz : zI n L < minI) :
    Calls Tryd.prog 20 #[.agg #[.bool n, .slice A L.length c]] w fun e w' => e = .returned (.tuple #[.int .i64 0, .bool false]) ∧ Below w.heap.size w w' := by
  have hC := fun (k : Bool) (A2 : Option Addr) (c2 : Nat) (M : List Nat) W (hM : zI k M = minI) (hml : M.length ≤ 3) (h1 : IntR W W.heap.size n A c L) (h2 : IntR W W.heap.size k A2 c2 M) =>
    (show Calls Tryd.prog 30 #[.agg #[.bool n, .slice A L.length c], .agg #[.bool k, .slice A2 M.length c2]] W fun e w' => e = .returned (.int .i64 (-1)) ∧ Below W.heap.size W w' from by
      have := cmp_any n k A A2 c c2 L M W (by omega) (by omega) h1 h2
      rw [hM, show cmpI (zI n L) minI = -1 by unfold cmpI; rw [if_pos hz]] at this
      exact this)
  have HC := Lib.hid hC
  clear hC hz
  generalize hl' : L.length = l at *
  have HLL := Lib.hid hl'
  clear hl'
  go_enter Tryd.func20, Tryd.ntmps20
  go_wp2
  go_region_with (first
    | (go_at_call 19; (with_reducible refine (of_min _).mono ?_); rintro e w1 ⟨k, A2, c2, M, rfl, hi, hzm, hml, hb1⟩; have X := boxed (below_undrew hb1); have hx0 := X.1; have hx1 := X.2.1; have HB1 := Lib.hid ((below_alloc_new _).trans (Below.less X.2.2.2 (Nat.le_succ _))); clear X hb1)
    | (go_at_call 30; (with_reducible refine (HC.out k A2 c2 M _ hzm hml (hL.up HB1.out) hi).mono ?_); rintro e w2 ⟨rfl, hb2⟩))
  all_goals
    go_wp2
    go_ret2
    exact ⟨rfl, HB1.out.trans (Below.less hb2 HB1.out.size)⟩

theorem wrap_back {v : Int} (h1 : 0 ≤ v) (h2 : v ≤ 9223372036854775808) : IntKind.i64.wrap (IntKind.u64.wrap (-v)) = -v := by
  simp only [IntKind.wrap, IntKind.signed, IntKind.bits, Bool.false_and, Bool.false_eq_true, if_false, Bool.true_and, decide_eq_true_eq]
  split <;> omega

theorem wrap64_back {v : Int} (h1 : 0 ≤ v) (h2 : v ≤ 9223372036854775808) : wrap64 (IntKind.u64.wrap (-v)) = -v := by
  simp only [wrap64, IntKind.wrap, IntKind.signed, IntKind.bits, Bool.false_and, Bool.false_eq_true, if_false]
  omega
theorem tup_eq {a b : Int} {c : Bool} (h : a = b) : Ending.returned (.tuple #[.int .i64 a, .bool c]) = .returned (.tuple #[.int .i64 b, .bool c]) := by rw [h]

set_option maxRecDepth 20000 in
set_option maxHeartbeats 6400000 in
theorem small_above (n : Bool) (A : Option Addr) (c : Nat) (L : List Nat) (w : World) (hl : L.length ≤ 100000) (hL : IntR w w.heap.size n A c L) (hz : maxI < zI n L) :
    Calls Tryd.prog 20 #[.agg #[.bool n, .slice A L.length c]] w fun e w' => e = .returned (.tuple #[.int .i64 0, .bool false]) ∧ Below w.heap.size w w' := by
  have hmm : minI ≤ maxI := by decide
  have hCA := fun (k : Bool) (A2 : Option Addr) (c2 : Nat) (M : List Nat) W (hM : zI k M = minI) (hml : M.length ≤ 3) (h1 : IntR W W.heap.size n A c L) (h2 : IntR W W.heap.size k A2 c2 M) =>
    (show Calls Tryd.prog 30 #[.agg #[.bool n, .slice A L.length c], .agg #[.bool k, .slice A2 M.length c2]] W fun e w' => e = .returned (.int .i64 (cmpI (zI n L) minI)) ∧ Below W.heap.size W w' from by
      have := cmp_any n k A A2 c c2 L M W (by omega) (by omega) h1 h2
      rw [hM] at this
      exact this)
  have hCB := fun (k : Bool) (A2 : Option Addr) (c2 : Nat) (M : List Nat) W (hM : zI k M = maxI) (hml : M.length ≤ 3) (h1 : IntR W W.heap.size n A c L) (h2 : IntR W W.heap.size k A2 c2 M) =>
    (show Calls Tryd.prog 30 #[.agg #[.bool n, .slice A L.length c], .agg #[.bool k, .slice A2 M.length c2]] W fun e w' => e = .returned (.int .i64 (cmpI (zI n L) maxI)) ∧ Below W.heap.size W w' from by
      have := cmp_any n k A A2 c c2 L M W (by omega) (by omega) h1 h2
      rw [hM] at this
      exact this)
  have hqa : cmpI (zI n L) minI = 0 ∨ cmpI (zI n L) minI = 1 := by unfold cmpI; rw [if_neg (by omega)]; split <;> simp
  have hqb : cmpI (zI n L) maxI = 1 := by unfold cmpI; rw [if_neg (by omega), if_neg (by omega)]
  rcases hqa with e | e
  all_goals
    rw [e] at hCA
    rw [hqb] at hCB
    have HCA := Lib.hid hCA
    have HCB := Lib.hid hCB
    clear hCA hCB e hqb
    clear hz hmm
    generalize hl' : L.length = l at *
    have HLL := Lib.hid hl'
    clear hl'
    have Y := boxed (w := w) (x := .bool n) (y := .slice A l c) (t := 25) (Below.refl _ _)
    have hy0 := Y.1
    have hy1 := Y.2.1
    clear Y
    have HC := Lib.hid (below_drew (Below.refl (w.heap.size + 1) (w.alloc (.cells #[.bool n, .slice A l c] 25))))
    have hf0 := hy0
    have hf1 := hy1
    go_enter Tryd.func20, Tryd.ntmps20
    go_wp2
    go_region_held3 (fun w' => w'.cell? ⟨w.heap.size, 0, none⟩ = some (.bool n) ∧ w'.cell? ⟨w.heap.size, 1, none⟩ = some (.slice A l c)) (go_keep)
      (first
        | (go_at_call 19; (first | ((with_reducible refine (of_min _).mono ?_); rintro e w4 ⟨k, A2, c2, M, rfl, hi, hzm, hml, hb4⟩) | ((with_reducible refine (of_max _).mono ?_); rintro e w4 ⟨k, A2, c2, M, rfl, hi, hzm, hml, hb4⟩)); have HZM := Lib.hid hzm; have HI := Lib.hid hi; clear hzm hi; have HC9 := Lib.hid (below_then HC.out hb4 (below_sz HC.out)); clear HC hf0 hf1; have HC := HC9; clear HC9 hb4; have hf0 := (below_atB (i := 0) HC.out (Nat.lt_succ_self _)).trans hy0; have hf1 := (below_atB (i := 1) HC.out (Nat.lt_succ_self _)).trans hy1)
        | (go_at_call 30; (first | (with_reducible refine (HCA.out k A2 c2 M _ HZM.out hml (hL.up (up4 HC.out)) HI.out).mono ?_) | (with_reducible refine (HCB.out k A2 c2 M _ HZM.out hml (hL.up (up4 HC.out)) HI.out).mono ?_)); rintro e w4 ⟨rfl, hb4⟩; have HC9 := Lib.hid (below_then HC.out hb4 (below_sz HC.out)); clear HC hf0 hf1; have HC := HC9; clear HC9 hb4; have hf0 := (below_atB (i := 0) HC.out (Nat.lt_succ_self _)).trans hy0; have hf1 := (below_atB (i := 1) HC.out (Nat.lt_succ_self _)).trans hy1))
    all_goals
      go_wp2
      go_ret2
      exact ⟨rfl, up4 HC.out⟩

set_option maxRecDepth 20000 in
set_option maxHeartbeats 6400000 in
theorem small_in_neg (A : Option Addr) (c : Nat) (L : List Nat) (w : World) (hl : L.length ≤ 100000) (hL : IntR w w.heap.size true A c L) (hz1 : minI ≤ zI true L) (hz2 : zI true L ≤ maxI) :
    Calls Tryd.prog 20 #[.agg #[.bool true, .slice A L.length c]] w fun e w' => e = .returned (.tuple #[.int .i64 (zI true L), .bool true]) ∧ Below w.heap.size w w' := by
  have hvb : (val9 L : Int) ≤ 9223372036854775808 ∧ (true = false → (val9 L : Int) ≤ 9223372036854775807) := by
    unfold zI minI maxI at *
    simp at hz1 hz2 ⊢
    omega
  have hW := fun W (h1 : Row .u32 W W.heap.size A c L) => wordOf_any A c L W (by omega) (by omega) h1 hL.canon.lim
  have HW := Lib.hid hW
  clear hW
  have HVB := Lib.hid hvb
  clear hvb
  have hCA := fun (k : Bool) (A2 : Option Addr) (c2 : Nat) (M : List Nat) W (hM : zI k M = minI) (hml : M.length ≤ 3) (h1 : IntR W W.heap.size true A c L) (h2 : IntR W W.heap.size k A2 c2 M) =>
    (show Calls Tryd.prog 30 #[.agg #[.bool true, .slice A L.length c], .agg #[.bool k, .slice A2 M.length c2]] W fun e w' => e = .returned (.int .i64 (cmpI (zI true L) minI)) ∧ Below W.heap.size W w' from by
      have := cmp_any true k A A2 c c2 L M W (by omega) (by omega) h1 h2
      rw [hM] at this
      exact this)
  have hCB := fun (k : Bool) (A2 : Option Addr) (c2 : Nat) (M : List Nat) W (hM : zI k M = maxI) (hml : M.length ≤ 3) (h1 : IntR W W.heap.size true A c L) (h2 : IntR W W.heap.size k A2 c2 M) =>
    (show Calls Tryd.prog 30 #[.agg #[.bool true, .slice A L.length c], .agg #[.bool k, .slice A2 M.length c2]] W fun e w' => e = .returned (.int .i64 (cmpI (zI true L) maxI)) ∧ Below W.heap.size W w' from by
      have := cmp_any true k A A2 c c2 L M W (by omega) (by omega) h1 h2
      rw [hM] at this
      exact this)
  have hqa : cmpI (zI true L) minI = 0 ∨ cmpI (zI true L) minI = 1 := by unfold cmpI; rw [if_neg (by omega)]; split <;> simp
  have hqb : cmpI (zI true L) maxI = -1 ∨ cmpI (zI true L) maxI = 0 := by
    unfold cmpI
    by_cases h : zI true L < maxI
    · rw [if_pos h]; simp
    · rw [if_neg h, if_pos (by omega)]; simp
  rcases hqa with e | e <;> rcases hqb with e2 | e2
  all_goals
    rw [e] at hCA
    rw [e2] at hCB
    have HCA := Lib.hid hCA
    have HCB := Lib.hid hCB
    clear hCA hCB e e2
    clear hz1 hz2
    generalize hl' : L.length = l at *
    have HLL := Lib.hid hl'
    clear hl'
    have Y := boxed (w := w) (x := .bool true) (y := .slice A l c) (t := 25) (Below.refl _ _)
    have hy0 := Y.1
    have hy1 := Y.2.1
    clear Y
    have HC := Lib.hid (below_drew (Below.refl (w.heap.size + 1) (w.alloc (.cells #[.bool true, .slice A l c] 25))))
    have hf0 := hy0
    have hf1 := hy1
    go_enter Tryd.func20, Tryd.ntmps20
    go_wp2
    go_region_held3 (fun w' => w'.cell? ⟨w.heap.size, 0, none⟩ = some (.bool true) ∧ w'.cell? ⟨w.heap.size, 1, none⟩ = some (.slice A l c)) (go_keep)
      (first
        | (go_at_call 19; (first | ((with_reducible refine (of_min _).mono ?_); rintro e w4 ⟨k, A2, c2, M, rfl, hi, hzm, hml, hb4⟩) | ((with_reducible refine (of_max _).mono ?_); rintro e w4 ⟨k, A2, c2, M, rfl, hi, hzm, hml, hb4⟩)); have HZM := Lib.hid hzm; have HI := Lib.hid hi; clear hzm hi; have HC9 := Lib.hid (below_then HC.out hb4 (below_sz HC.out)); clear HC hf0 hf1; have HC := HC9; clear HC9 hb4; have hf0 := (below_atB (i := 0) HC.out (Nat.lt_succ_self _)).trans hy0; have hf1 := (below_atB (i := 1) HC.out (Nat.lt_succ_self _)).trans hy1)
        | (go_at_call 30; (first | (with_reducible refine (HCA.out k A2 c2 M _ HZM.out hml (hL.up (up4 HC.out)) HI.out).mono ?_) | (with_reducible refine (HCB.out k A2 c2 M _ HZM.out hml (hL.up (up4 HC.out)) HI.out).mono ?_)); rintro e w4 ⟨rfl, hb4⟩; have HC9 := Lib.hid (below_then HC.out hb4 (below_sz HC.out)); clear HC hf0 hf1; have HC := HC9; clear HC9 hb4; have hf0 := (below_atB (i := 0) HC.out (Nat.lt_succ_self _)).trans hy0; have hf1 := (below_atB (i := 1) HC.out (Nat.lt_succ_self _)).trans hy1))
    all_goals
      go_wp2_with fail
    all_goals
      refine (HW.out _ (hL.row.up (up4 HC.out))).mono ?_
      rintro e w5 ⟨rfl, rfl⟩
      have hv := HVB.out
      have hv0 : (0 : Int) ≤ (val9 L : Int) := by omega
      go_wp2_with fail
      go_ret2
      exact ⟨tup_eq (wrap64_back hv0 hv.1), up4 HC.out⟩

set_option maxRecDepth 20000 in
set_option maxHeartbeats 6400000 in
theorem small_in_pos (A : Option Addr) (c : Nat) (L : List Nat) (w : World) (hl : L.length ≤ 100000) (hL : IntR w w.heap.size false A c L) (hz1 : minI ≤ zI false L) (hz2 : zI false L ≤ maxI) :
    Calls Tryd.prog 20 #[.agg #[.bool false, .slice A L.length c]] w fun e w' => e = .returned (.tuple #[.int .i64 (zI false L), .bool true]) ∧ Below w.heap.size w w' := by
  have hvb : (val9 L : Int) ≤ 9223372036854775808 ∧ (false = false → (val9 L : Int) ≤ 9223372036854775807) := by
    unfold zI minI maxI at *
    simp at hz1 hz2 ⊢
    omega
  have hW := fun W (h1 : Row .u32 W W.heap.size A c L) => wordOf_any A c L W (by omega) (by omega) h1 hL.canon.lim
  have HW := Lib.hid hW
  clear hW
  have HVB := Lib.hid hvb
  clear hvb
  have hCA := fun (k : Bool) (A2 : Option Addr) (c2 : Nat) (M : List Nat) W (hM : zI k M = minI) (hml : M.length ≤ 3) (h1 : IntR W W.heap.size false A c L) (h2 : IntR W W.heap.size k A2 c2 M) =>
    (show Calls Tryd.prog 30 #[.agg #[.bool false, .slice A L.length c], .agg #[.bool k, .slice A2 M.length c2]] W fun e w' => e = .returned (.int .i64 (cmpI (zI false L) minI)) ∧ Below W.heap.size W w' from by
      have := cmp_any false k A A2 c c2 L M W (by omega) (by omega) h1 h2
      rw [hM] at this
      exact this)
  have hCB := fun (k : Bool) (A2 : Option Addr) (c2 : Nat) (M : List Nat) W (hM : zI k M = maxI) (hml : M.length ≤ 3) (h1 : IntR W W.heap.size false A c L) (h2 : IntR W W.heap.size k A2 c2 M) =>
    (show Calls Tryd.prog 30 #[.agg #[.bool false, .slice A L.length c], .agg #[.bool k, .slice A2 M.length c2]] W fun e w' => e = .returned (.int .i64 (cmpI (zI false L) maxI)) ∧ Below W.heap.size W w' from by
      have := cmp_any false k A A2 c c2 L M W (by omega) (by omega) h1 h2
      rw [hM] at this
      exact this)
  have hqa : cmpI (zI false L) minI = 0 ∨ cmpI (zI false L) minI = 1 := by unfold cmpI; rw [if_neg (by omega)]; split <;> simp
  have hqb : cmpI (zI false L) maxI = -1 ∨ cmpI (zI false L) maxI = 0 := by
    unfold cmpI
    by_cases h : zI false L < maxI
    · rw [if_pos h]; simp
    · rw [if_neg h, if_pos (by omega)]; simp
  rcases hqa with e | e <;> rcases hqb with e2 | e2
  all_goals
    rw [e] at hCA
    rw [e2] at hCB
    have HCA := Lib.hid hCA
    have HCB := Lib.hid hCB
    clear hCA hCB e e2
    clear hz1 hz2
    generalize hl' : L.length = l at *
    have HLL := Lib.hid hl'
    clear hl'
    have Y := boxed (w := w) (x := .bool false) (y := .slice A l c) (t := 25) (Below.refl _ _)
    have hy0 := Y.1
    have hy1 := Y.2.1
    clear Y
    have HC := Lib.hid (below_drew (Below.refl (w.heap.size + 1) (w.alloc (.cells #[.bool false, .slice A l c] 25))))
    have hf0 := hy0
    have hf1 := hy1
    go_enter Tryd.func20, Tryd.ntmps20
    go_wp2
    go_region_held3 (fun w' => w'.cell? ⟨w.heap.size, 0, none⟩ = some (.bool false) ∧ w'.cell? ⟨w.heap.size, 1, none⟩ = some (.slice A l c)) (go_keep)
      (first
        | (go_at_call 19; (first | ((with_reducible refine (of_min _).mono ?_); rintro e w4 ⟨k, A2, c2, M, rfl, hi, hzm, hml, hb4⟩) | ((with_reducible refine (of_max _).mono ?_); rintro e w4 ⟨k, A2, c2, M, rfl, hi, hzm, hml, hb4⟩)); have HZM := Lib.hid hzm; have HI := Lib.hid hi; clear hzm hi; have HC9 := Lib.hid (below_then HC.out hb4 (below_sz HC.out)); clear HC hf0 hf1; have HC := HC9; clear HC9 hb4; have hf0 := (below_atB (i := 0) HC.out (Nat.lt_succ_self _)).trans hy0; have hf1 := (below_atB (i := 1) HC.out (Nat.lt_succ_self _)).trans hy1)
        | (go_at_call 30; (first | (with_reducible refine (HCA.out k A2 c2 M _ HZM.out hml (hL.up (up4 HC.out)) HI.out).mono ?_) | (with_reducible refine (HCB.out k A2 c2 M _ HZM.out hml (hL.up (up4 HC.out)) HI.out).mono ?_)); rintro e w4 ⟨rfl, hb4⟩; have HC9 := Lib.hid (below_then HC.out hb4 (below_sz HC.out)); clear HC hf0 hf1; have HC := HC9; clear HC9 hb4; have hf0 := (below_atB (i := 0) HC.out (Nat.lt_succ_self _)).trans hy0; have hf1 := (below_atB (i := 1) HC.out (Nat.lt_succ_self _)).trans hy1))
    all_goals
      go_wp2_with fail
    all_goals
      refine (HW.out _ (hL.row.up (up4 HC.out))).mono ?_
      rintro e w5 ⟨rfl, rfl⟩
      have hv := HVB.out
      have hv0 : (0 : Int) ≤ (val9 L : Int) := by omega
      go_wp2_with fail
      go_ret2
      exact ⟨tup_eq (IntWalk.wrap64_in _ ⟨by omega, by have := hv.2 trivial; omega⟩), up4 HC.out⟩

end Go.Proofs.YtbfbijokhlkekaaDoor

/- The reference's 'Small'. -/
namespace Go.Proofs.YtbfbijokhlkekaaDoor
open Go.RowKit

theorem rof_fact {n : Int} {w : World} (h1 : -9223372036854775808 ≤ n) (h2 : n ≤ 9223372036854775807) :
    Calls Tryd.prog 21 #[.int .i64 n] w fun e w' => ∃ v, e = .returned v ∧ PRef n 5 v w' ∧ Below w.heap.size w w' := by
  refine (rof_any n w h1 h2).mono ?_
  rintro e w' ⟨k, A, c, R, rfl, hr, hz, hl, hb⟩
  exact ⟨_, rfl, ⟨k, A, c, R, rfl, hr, hz, hl⟩, hb⟩
theorem rcmp_fact {x y : Int} {n m : Nat} {a b : Value} {w : World} (h1 : PRef x n a w) (h2 : PRef y m b w) (hn : n ≤ 500000) (hm : m ≤ 500000) :
    Calls Tryd.prog 31 #[a, b] w fun e w' => e = .returned (.int .i64 (cmpI x y)) ∧ Below w.heap.size w w' := by
  obtain ⟨k, A, c, L, rfl, i1, rfl, l1⟩ := h1
  obtain ⟨k', A', c', M, rfl, i2, rfl, l2⟩ := h2
  exact rcmp_any k k' A A' c c' L M w (by omega) (by omega) i1 i2
theorem rsigned_fact (k : Bool) (A : Option Addr) (c : Nat) (R : List Nat) {w : World} (hn : R.length ≤ 4000000) (hlim : Lim4 R) (hR : Row .i64 w w.heap.size A c R) :
    Calls Tryd.prog 44 #[.bool k, .slice A R.length c] w fun e w' => ∃ v, e = .returned v ∧ PRef (if k then -(val4 R : Int) else val4 R) R.length v w' ∧ Below w.heap.size w w' := by
  refine (rsigned_pack k A c R w (Nat.le_refl _) hn hlim hR).mono ?_
  rintro e w' ⟨T, rfl, hr, hl4, htop, hv, hl, hb⟩
  refine ⟨_, rfl, ⟨_, _, _, T, rfl, ⟨hr, hl4, htop, fun h0 h1 => ?_⟩, ?_, hl⟩, hb⟩
  · rw [h1] at h0; simp at h0
  · unfold zR
    rw [← hv]
    cases k
    · simp
    · rcases Nat.eq_zero_or_pos (List.length T) with h | h
      · have : T = [] := List.eq_nil_of_length_eq_zero h
        subst this
        simp [val4, valB]
      · simp [h]
/-- The range of an int. -/
def inR (z : Int) : Prop := minI ≤ z ∧ z ≤ maxI
def RSmallPost (z : Int) (e : Ending) : Prop := (inR z → e = .returned (.tuple #[.int .i64 z, .bool true])) ∧ (¬ inR z → e = .returned (.tuple #[.int .i64 0, .bool false]))

/-- The number of the digits from the k-th on, with its sign. -/
def vR (k : Bool) (L : List Nat) (j : Nat) : Int := if k then -(val4 (L.drop j) : Int) else val4 (L.drop j)
theorem vR_end (k : Bool) (L : List Nat) : vR k L L.length = 0 := by unfold vR; simp [val4, valB]
theorem vR_zero (k : Bool) (L : List Nat) : vR k L 0 = zR k L := by unfold vR zR; simp
theorem vR_step (k : Bool) (L : List Nat) (j : Nat) (h : j < L.length) : vR k L j = vR k L (j + 1) * 10000 + (if k then -(nth L j : Int) else nth L j) := by
  have h1 := valB_drop 10000 L j h
  unfold vR
  rw [show val4 (L.drop j) = _ from h1]
  unfold val4
  cases k <;> simp <;> omega
theorem val4_drop_le (L : List Nat) (i : Nat) : ∀ n, val4 (L.drop (i + n)) ≤ val4 (L.drop i) := by
  intro n
  induction n with
  | zero => exact Nat.le_refl _
  | succ n ih =>
    refine Nat.le_trans ?_ ih
    rcases Nat.lt_or_ge (i + n) L.length with h | h
    · have h1 := valB_drop 10000 L (i + n) h
      show val4 (L.drop (i + n + 1)) ≤ val4 (L.drop (i + n))
      unfold val4
      omega
    · rw [show L.drop (i + (n + 1)) = [] from List.drop_eq_nil_of_le (by omega)]
      simp [val4, valB]
theorem vR_in {k : Bool} {L : List Nat} {i j : Nat} (h : inR (vR k L i)) (hij : i ≤ j) : inR (vR k L j) := by
  have h1 := val4_drop_le L i (j - i)
  rw [show i + (j - i) = j by omega] at h1
  unfold inR vR minI maxI at *
  cases k <;> simp at * <;> omega

theorem rsigned_to {z : Int} (k : Bool) (A : Option Addr) (c : Nat) (R : List Nat) {w : World} (hn : R.length ≤ 5) (hz : (if k then -(val4 R : Int) else val4 R) = z) (hlim : Lim4 R) (hR : Row .i64 w w.heap.size A c R) :
    Calls Tryd.prog 44 #[.bool k, .slice A R.length c] w fun e w' => ∃ v, e = .returned v ∧ PRef z 5 v w' ∧ Below w.heap.size w w' := by
  subst hz
  refine (rsigned_fact k A c R (by omega) hlim hR).mono ?_
  rintro e w' ⟨v, he, ⟨q, B, d, T, h1, h2, h3, h4⟩, hb⟩
  exact ⟨v, he, ⟨q, B, d, T, h1, h2, h3, by omega⟩, hb⟩
theorem wrap64_sub (x y : Int) : wrap64 (wrap64 x + y) = wrap64 (x + y) := by unfold wrap64; omega
theorem wrap64_lo (x : Int) : -9223372036854775808 ≤ wrap64 x := by unfold wrap64; omega
theorem wrap64_hi (x : Int) : wrap64 x ≤ 9223372036854775807 := by unfold wrap64; omega
theorem wrap64_inR {x : Int} (h : inR x) : wrap64 x = x := by unfold inR minI maxI at h; unfold wrap64; omega
theorem cmp_ne {x y : Int} (h : x ≠ y) : (cmpI x y != 0) = true := by
  rw [bne_iff_ne]; unfold cmpI; (repeat' split) <;> omega
theorem cmp_eq {x y : Int} (h : x = y) : (cmpI x y != 0) = false := by rw [h]; unfold cmpI; simp
theorem inR_wrap (x : Int) : inR (wrap64 x) := ⟨wrap64_lo x, wrap64_hi x⟩

def rsFL01 (k : Bool) (L : List Nat) (m b o n c : Nat) (X cc : Int) (w0 : World) : List (Nat × Fact) := [(29, .is (.pointer (some ⟨w0.heap.size, 1, none⟩))), (30, .is (.slice (some ⟨b, o, none⟩) n c)), (31, .is (.int .i64 n)), (32, .is (.bool false)), (33, .is (.bool false)), (34, .is (.int .i64 X)), (35, .ref (X) 5), (36, .is (.pointer (some ⟨w0.heap.size, 0, none⟩))), (37, .is (.bool k)), (38, .is (.pointer (some ⟨w0.heap.size, 1, none⟩))), (39, .is (.slice (some ⟨b, o, none⟩) n c)), (40, .is (.int .i64 m)), (41, .is (.slice (some ⟨b, o + m, none⟩) (n - m) (c - m))), (42, .ref (vR k L m) 5), (43, .is (.int .i64 cc)), (44, .is (.bool false)), (45, .is (.bool false))]
def rsFL00 (k : Bool) (L : List Nat) (m b o n c : Nat) (X cc : Int) (w0 : World) : List (Nat × Fact) := [(29, .is (.pointer (some ⟨w0.heap.size, 1, none⟩))), (30, .is (.slice (some ⟨b, o, none⟩) n c)), (31, .is (.int .i64 n)), (32, .is (.bool false)), (33, .is (.bool false)), (34, .is (.int .i64 X)), (35, .ref (X) 5), (36, .is (.pointer (some ⟨w0.heap.size, 0, none⟩))), (37, .is (.bool k)), (38, .is (.pointer (some ⟨w0.heap.size, 1, none⟩))), (39, .is (.slice (some ⟨b, o, none⟩) n c)), (40, .is (.int .i64 m)), (41, .is (.slice (some ⟨b, o + m, none⟩) (n - m) (c - m))), (42, .ref (vR k L m) 5), (43, .is (.int .i64 cc)), (44, .is (.bool true)), (45, .is (.bool true))]
def rsFL11 (k : Bool) (L : List Nat) (m b o n c : Nat) (X cc : Int) (w0 : World) : List (Nat × Fact) := [(29, .is (.pointer (some ⟨w0.heap.size, 1, none⟩))), (30, .is (.slice (some ⟨b, o, none⟩) n c)), (31, .is (.int .i64 n)), (32, .is (.bool false)), (33, .is (.bool false)), (34, .is (.int .i64 X)), (35, .ref (X) 5), (36, .is (.pointer (some ⟨w0.heap.size, 0, none⟩))), (37, .is (.bool k)), (38, .is (.pointer (some ⟨w0.heap.size, 1, none⟩))), (39, .is (.slice (some ⟨b, o, none⟩) n c)), (40, .is (.int .i64 m)), (41, .is (.slice (some ⟨b, o + m, none⟩) (n - m) (c - m))), (42, .ref (vR k L m) 5), (43, .is (.int .i64 cc)), (44, .is (.bool false)), (45, .is (.bool false))]
def rsFL10 (k : Bool) (L : List Nat) (m b o n c : Nat) (X cc : Int) (w0 : World) : List (Nat × Fact) := [(29, .is (.pointer (some ⟨w0.heap.size, 1, none⟩))), (30, .is (.slice (some ⟨b, o, none⟩) n c)), (31, .is (.int .i64 n)), (32, .is (.bool false)), (33, .is (.bool false)), (34, .is (.int .i64 X)), (35, .ref (X) 5), (36, .is (.pointer (some ⟨w0.heap.size, 0, none⟩))), (37, .is (.bool k)), (38, .is (.pointer (some ⟨w0.heap.size, 1, none⟩))), (39, .is (.slice (some ⟨b, o, none⟩) n c)), (40, .is (.int .i64 m)), (41, .is (.slice (some ⟨b, o + m, none⟩) (n - m) (c - m))), (42, .ref (vR k L m) 5), (43, .is (.int .i64 cc)), (44, .is (.bool true)), (45, .is (.bool true))]

set_option maxRecDepth 20000 in
set_option maxHeartbeats 3200000 in
theorem rsmall_short (k : Bool) (A : Option Addr) (c : Nat) (L : List Nat) (w0 : World) (hl : L.length ≤ 5) (hn0 : 0 < L.length) (hL : RefR w0 w0.heap.size k A c L) :
    Calls Tryd.prog 23 #[.agg #[.bool k, .slice A L.length c]] w0 fun e w' => RSmallPost (zR k L) e ∧ Below w0.heap.size w0 w' := by
  obtain ⟨b, o, rfl, hbB, hcs⟩ := hL.row.spot hn0
  have HCS := Lib.hid hcs
  have HLR := Lib.hid hL
  have hlc := hL.row.len
  have HV0 := Lib.hid (vR_zero k L)
  have HVE := Lib.hid (vR_end k L)
  clear hcs hL
  generalize hl' : L.length = n at *
  have HLL := Lib.hid hl'
  clear hl'
  go_enter Tryd.func23, Tryd.ntmps23
  go_wp2
  go_loopw [4, 5] (fun nv iv wr => ∃ j : Nat, j ≤ n ∧ iv = .int .i64 ((j : Int) - 1) ∧ nv = .int .i64 (vR k L j) ∧ inR (vR k L j) ∧ Below (w0.heap.size + 1) (w0.alloc (.cells #[.bool k, .slice (some ⟨b, o, none⟩) n c] 31)) wr) (fun _ iv _ => (intOf iv + 1).toNat)
  case atStart => exact ⟨n, Nat.le_refl _, rfl, by rw [HVE.out], by rw [HVE.out]; unfold inR minI maxI; omega, Below.refl _ _⟩
  case round =>
    obtain ⟨j, hj, rfl, rfl, hin, hb⟩ := hrel
    have hy := boxed2 hb
    have hy0 := hy.1
    have hy1 := hy.2
    have hd5 : decide (5 < (n : Int)) = false := by simp; omega
    rcases Nat.eq_zero_or_pos j with rfl | hpos
    · rw [HV0.out] at hin ⊢
      go_wp2
      go_ret2
      refine ⟨⟨fun _ => rfl, fun h => absurd hin h⟩, ?_⟩
      exact (below_alloc_new _).trans (Below.less hb (by omega))
    · obtain ⟨m, rfl⟩ : ∃ m, j = m + 1 := ⟨j - 1, by omega⟩
      have hcm : wr.cell? ⟨b, o + m, none⟩ = some (.int .i64 (nth L m)) := (hb.cell (by exact Nat.lt_succ_of_lt hbB)).trans ((below_alloc_new _).cell (by exact hbB) |>.trans (HCS.out m (by rw [HLL.out]; omega)))
      have hrowm : ∀ V : World, Below (w0.heap.size + 1) (w0.alloc (.cells #[.bool k, .slice (some ⟨b, o, none⟩) n c] 31)) V → Row .i64 V V.heap.size (some ⟨b, o + m, none⟩) (c - m) (L.drop m) := by
        intro V hV
        refine ⟨by rw [List.length_drop, HLL.out]; omega, fun _ => ⟨b, o + m, rfl, by have := hV.size; simp at this; omega, Cells.drop ?_ m⟩⟩
        exact HCS.out.keep fun q => (hV.cell (by exact Nat.lt_succ_of_lt hbB)).trans ((below_alloc_new _).cell (by exact hbB))
      cases k
      · have hst := vR_step false L m (by rw [HLL.out]; omega)
        simp only [Bool.false_eq_true, if_false, if_true] at hst
        have hnl : nth L m < 10000 := nth_all HLR.out.lim (by omega) m
        go_upto_region 9 with (fail)
        have hmi : ((m + 1 : Nat) : Int) - 1 = m := by omega
        rw [hmi, wrap64_sub, ← hst]
        have hX1 := wrap64_lo (vR false L m)
        have hX2 := wrap64_hi (vR false L m)
        have hXi := fun h : inR (vR false L m) => wrap64_inR h
        have hXn := inR_wrap (vR false L m)
        generalize wrap64 (vR false L m) = X at *
        have hlt : w0.heap.size < wr.heap.size := by have := hb.size; simp at this; omega
        have hrow : Row .i64 wr wr.heap.size (some ⟨b, o + m, none⟩) (c - m) (L.drop m) := hrowm _ hb
        have HRW := Lib.hid hrow
        have hrs := fun (V : World) h => rsigned_to (z := vR false L m) false (some ⟨b, o + m, none⟩) (c - m) (L.drop m) (w := V) (by rw [List.length_drop, HLL.out]; omega) rfl (fun d hd => HLR.out.lim d (List.mem_of_mem_drop hd)) h
        have hdl : (L.drop m).length = n - m := by rw [List.length_drop, HLL.out]
        rw [hdl] at hrs
        have HSG := Lib.hid hrs
        have HST := Lib.hid hst
        have HXI := Lib.hid hXi
        have HXN := Lib.hid hXn
        have HB := Lib.hid hb
        have i1 : (0 : Int) ≤ (m : Int) := by omega
        have i2 : (m : Int) ≤ (n : Int) := by omega
        have i3 : (n : Int) ≤ (c : Int) := by omega
        have i4 : ¬ c = m := by omega
        have i5 : ¬ c - m = 0 := by omega
        clear hrow hrs hdl hst hXi hXn hb hcm
        clear hmi
        by_cases hr : inR (vR false L m)
        · have hcx := cmp_eq (HXI.out hr)
          have hcm := fun (V : World) (a a' : Value) (h1 : PRef X 5 a V) (h2 : PRef (vR false L m) 5 a' V) => rcmp_fact h1 h2 (by omega) (by omega)
          generalize cmpI X (vR false L m) = cc at *
          have HCM := Lib.hid hcm
          clear hcm
          refine region_facts (rsFL01 false L m b o n c X cc w0) (fun w' => Below wr.heap.size wr w') [[], [29], [30], [31], [32], [33], [33, 34], [33], [33, 36], [33], [33, 38], [33], [33, 39, 40], [33, 37, 41], [33, 35, 42], [33, 43], [33, 44]] (fun u => by simp only [rsFL01, temps, List.map_cons, List.map_nil, fillL, List.setIfInBounds_toArray, List.set_cons_zero, List.set_cons_succ]; rfl) (by kernel_rfl) (by kernel_rfl) (by kernel_rfl) (below_drew (Below.refl _ _)) ?_ ?_
          · refine StepsFr.cons ?_ ?_
            · intro u w hJ hF K hK
              clear hF
              go_simp
              exact hK.out _ _ hJ (Below.refl _ _) rfl
            refine StepsFr.cons ?_ ?_
            · intro u w hJ hF K hK
              have h29 : u 29 = .pointer (some ⟨w0.heap.size, 1, none⟩) := facts_get hF 29 (by simp)
              clear hF
              simp only [h29] at hK ⊢
              clear h29
              have hf1 := (hJ.cell (p := ⟨w0.heap.size, 1, none⟩) hlt).trans hy1
              go_simp
              exact hK.out _ _ hJ (Below.refl _ _) rfl
            refine StepsFr.cons ?_ ?_
            · intro u w hJ hF K hK
              have h30 : u 30 = .slice (some ⟨b, o, none⟩) n c := facts_get hF 30 (by simp)
              clear hF
              simp only [h30] at hK ⊢
              clear h30
              go_simp
              exact hK.out _ _ hJ (Below.refl _ _) rfl
            refine StepsFr.cons ?_ ?_
            · intro u w hJ hF K hK
              have h31 : u 31 = .int .i64 n := facts_get hF 31 (by simp)
              clear hF
              simp only [h31] at hK ⊢
              clear h31
              go_simp
              exact hK.out _ _ hJ (Below.refl _ _) rfl
            refine StepsFr.cons ?_ ?_
            · intro u w hJ hF K hK
              have h32 : u 32 = .bool false := facts_get hF 32 (by simp)
              clear hF
              simp only [h32] at hK ⊢
              clear h32
              go_simp
              exact hK.out _ _ hJ (Below.refl _ _) (rfl)
            refine StepsFr.cons ?_ ?_
            · intro u w hJ hF K hK
              have h33 : u 33 = .bool false := facts_get hF 33 (by simp)
              clear hF
              simp only [h33] at hK ⊢
              clear h33
              go_simp
              exact hK.out _ _ hJ (Below.refl _ _) (rfl)
            refine StepsFr.cons ?_ ?_
            · intro u w hJ hF K hK
              have h33 : u 33 = .bool false := facts_get hF 33 (by simp)
              have h34 : u 34 = .int .i64 X := facts_get hF 34 (by simp)
              clear hF
              simp only [h33, h34] at hK ⊢
              clear h33 h34
              go_simp
              refine (rof_fact hX1 hX2).mono ?_
              rintro e w' ⟨v, rfl, hv, hb⟩
              exact hK.out _ _ (below_then hJ hb hJ.size) hb (hv)
            refine StepsFr.cons ?_ ?_
            · intro u w hJ hF K hK
              have h33 : u 33 = .bool false := facts_get hF 33 (by simp)
              clear hF
              simp only [h33] at hK ⊢
              clear h33
              go_simp
              exact hK.out _ _ hJ (Below.refl _ _) rfl
            refine StepsFr.cons ?_ ?_
            · intro u w hJ hF K hK
              have h33 : u 33 = .bool false := facts_get hF 33 (by simp)
              have h36 : u 36 = .pointer (some ⟨w0.heap.size, 0, none⟩) := facts_get hF 36 (by simp)
              clear hF
              simp only [h33, h36] at hK ⊢
              clear h33 h36
              have hf0 := (hJ.cell (p := ⟨w0.heap.size, 0, none⟩) hlt).trans hy0
              go_simp
              exact hK.out _ _ hJ (Below.refl _ _) rfl
            refine StepsFr.cons ?_ ?_
            · intro u w hJ hF K hK
              have h33 : u 33 = .bool false := facts_get hF 33 (by simp)
              clear hF
              simp only [h33] at hK ⊢
              clear h33
              go_simp
              exact hK.out _ _ hJ (Below.refl _ _) rfl
            refine StepsFr.cons ?_ ?_
            · intro u w hJ hF K hK
              have h33 : u 33 = .bool false := facts_get hF 33 (by simp)
              have h38 : u 38 = .pointer (some ⟨w0.heap.size, 1, none⟩) := facts_get hF 38 (by simp)
              clear hF
              simp only [h33, h38] at hK ⊢
              clear h33 h38
              have hf1 := (hJ.cell (p := ⟨w0.heap.size, 1, none⟩) hlt).trans hy1
              go_simp
              exact hK.out _ _ hJ (Below.refl _ _) rfl
            refine StepsFr.cons ?_ ?_
            · intro u w hJ hF K hK
              have h33 : u 33 = .bool false := facts_get hF 33 (by simp)
              clear hF
              simp only [h33] at hK ⊢
              clear h33
              go_simp
              exact hK.out _ _ hJ (Below.refl _ _) (rfl)
            refine StepsFr.cons ?_ ?_
            · intro u w hJ hF K hK
              have h33 : u 33 = .bool false := facts_get hF 33 (by simp)
              have h39 : u 39 = .slice (some ⟨b, o, none⟩) n c := facts_get hF 39 (by simp)
              have h40 : u 40 = .int .i64 m := facts_get hF 40 (by simp)
              clear hF
              simp only [h33, h39, h40] at hK ⊢
              clear h33 h39 h40
              go_simp
              exact hK.out _ _ hJ (Below.refl _ _) rfl
            refine StepsFr.cons ?_ ?_
            · intro u w hJ hF K hK
              have h33 : u 33 = .bool false := facts_get hF 33 (by simp)
              have h37 : u 37 = .bool false := facts_get hF 37 (by simp)
              have h41 : u 41 = .slice (some ⟨b, o + m, none⟩) (n - m) (c - m) := facts_get hF 41 (by simp)
              clear hF
              simp only [h33, h37, h41] at hK ⊢
              clear h33 h37 h41
              go_simp
              refine (HSG.out _ (HRW.out.up hJ)).mono ?_
              rintro e w' ⟨v, rfl, hv, hb⟩
              exact hK.out _ _ (below_then hJ hb hJ.size) hb (hv)
            refine StepsFr.cons ?_ ?_
            · intro u w hJ hF K hK
              have h33 : u 33 = .bool false := facts_get hF 33 (by simp)
              have h35 : PRef (X) 5 (u 35) w := facts_get hF 35 (by simp)
              have h42 : PRef (vR false L m) 5 (u 42) w := facts_get hF 42 (by simp)
              clear hF
              simp only [h33] at hK ⊢
              clear h33
              go_simp
              refine (HCM.out _ _ _ h35 h42).mono ?_
              rintro e w' ⟨rfl, hb⟩
              exact hK.out _ _ (below_then hJ hb hJ.size) hb (rfl)
            refine StepsFr.cons ?_ ?_
            · intro u w hJ hF K hK
              have h33 : u 33 = .bool false := facts_get hF 33 (by simp)
              have h43 : u 43 = .int .i64 cc := facts_get hF 43 (by simp)
              clear hF
              simp only [h33, h43] at hK ⊢
              clear h33 h43
              go_simp
              exact hK.out _ _ hJ (Below.refl _ _) rfl
            refine StepsFr.cons ?_ ?_
            · intro u w hJ hF K hK
              have h33 : u 33 = .bool false := facts_get hF 33 (by simp)
              have h44 : u 44 = .bool false := facts_get hF 44 (by simp)
              clear hF
              simp only [h33, h44] at hK ⊢
              clear h33 h44
              go_simp
              exact hK.out _ _ hJ (Below.refl _ _) rfl
            exact StepsFr.nil
          · intro u w9 hJ9 hF
            have h45 : u 45 = .bool false := facts_get hF 45 (by simp [rsFL01, temps])
            clear hF
            simp only [h45]
            go_wp2
            go_roundw
            case rel => exact ⟨m, by omega, by go_num, by rw [HXI.out hr], hr, HB.out.trans (Below.less hJ9 hlt)⟩
            case measure => first | (simp [intOf]; done) | (simp [intOf]; omega)
        · have hcx := cmp_ne (fun h : X = vR false L m => hr (h ▸ HXN.out))
          have hz' := fun hz : inR (zR false L) => (HV0.out ▸ hz : inR (vR false L 0))
          have hcm := fun (V : World) (a a' : Value) (h1 : PRef X 5 a V) (h2 : PRef (vR false L m) 5 a' V) => rcmp_fact h1 h2 (by omega) (by omega)
          generalize cmpI X (vR false L m) = cc at *
          have HCM := Lib.hid hcm
          clear hcm
          refine region_facts (rsFL00 false L m b o n c X cc w0) (fun w' => Below wr.heap.size wr w') [[], [29], [30], [31], [32], [33], [33, 34], [33], [33, 36], [33], [33, 38], [33], [33, 39, 40], [33, 37, 41], [33, 35, 42], [33, 43], [33, 44]] (fun u => by simp only [rsFL00, temps, List.map_cons, List.map_nil, fillL, List.setIfInBounds_toArray, List.set_cons_zero, List.set_cons_succ]; rfl) (by kernel_rfl) (by kernel_rfl) (by kernel_rfl) (below_drew (Below.refl _ _)) ?_ ?_
          · refine StepsFr.cons ?_ ?_
            · intro u w hJ hF K hK
              clear hF
              go_simp
              exact hK.out _ _ hJ (Below.refl _ _) rfl
            refine StepsFr.cons ?_ ?_
            · intro u w hJ hF K hK
              have h29 : u 29 = .pointer (some ⟨w0.heap.size, 1, none⟩) := facts_get hF 29 (by simp)
              clear hF
              simp only [h29] at hK ⊢
              clear h29
              have hf1 := (hJ.cell (p := ⟨w0.heap.size, 1, none⟩) hlt).trans hy1
              go_simp
              exact hK.out _ _ hJ (Below.refl _ _) rfl
            refine StepsFr.cons ?_ ?_
            · intro u w hJ hF K hK
              have h30 : u 30 = .slice (some ⟨b, o, none⟩) n c := facts_get hF 30 (by simp)
              clear hF
              simp only [h30] at hK ⊢
              clear h30
              go_simp
              exact hK.out _ _ hJ (Below.refl _ _) rfl
            refine StepsFr.cons ?_ ?_
            · intro u w hJ hF K hK
              have h31 : u 31 = .int .i64 n := facts_get hF 31 (by simp)
              clear hF
              simp only [h31] at hK ⊢
              clear h31
              go_simp
              exact hK.out _ _ hJ (Below.refl _ _) rfl
            refine StepsFr.cons ?_ ?_
            · intro u w hJ hF K hK
              have h32 : u 32 = .bool false := facts_get hF 32 (by simp)
              clear hF
              simp only [h32] at hK ⊢
              clear h32
              go_simp
              exact hK.out _ _ hJ (Below.refl _ _) (rfl)
            refine StepsFr.cons ?_ ?_
            · intro u w hJ hF K hK
              have h33 : u 33 = .bool false := facts_get hF 33 (by simp)
              clear hF
              simp only [h33] at hK ⊢
              clear h33
              go_simp
              exact hK.out _ _ hJ (Below.refl _ _) (rfl)
            refine StepsFr.cons ?_ ?_
            · intro u w hJ hF K hK
              have h33 : u 33 = .bool false := facts_get hF 33 (by simp)
              have h34 : u 34 = .int .i64 X := facts_get hF 34 (by simp)
              clear hF
              simp only [h33, h34] at hK ⊢
              clear h33 h34
              go_simp
              refine (rof_fact hX1 hX2).mono ?_
              rintro e w' ⟨v, rfl, hv, hb⟩
              exact hK.out _ _ (below_then hJ hb hJ.size) hb (hv)
            refine StepsFr.cons ?_ ?_
            · intro u w hJ hF K hK
              have h33 : u 33 = .bool false := facts_get hF 33 (by simp)
              clear hF
              simp only [h33] at hK ⊢
              clear h33
              go_simp
              exact hK.out _ _ hJ (Below.refl _ _) rfl
            refine StepsFr.cons ?_ ?_
            · intro u w hJ hF K hK
              have h33 : u 33 = .bool false := facts_get hF 33 (by simp)
              have h36 : u 36 = .pointer (some ⟨w0.heap.size, 0, none⟩) := facts_get hF 36 (by simp)
              clear hF
              simp only [h33, h36] at hK ⊢
              clear h33 h36
              have hf0 := (hJ.cell (p := ⟨w0.heap.size, 0, none⟩) hlt).trans hy0
              go_simp
              exact hK.out _ _ hJ (Below.refl _ _) rfl
            refine StepsFr.cons ?_ ?_
            · intro u w hJ hF K hK
              have h33 : u 33 = .bool false := facts_get hF 33 (by simp)
              clear hF
              simp only [h33] at hK ⊢
              clear h33
              go_simp
              exact hK.out _ _ hJ (Below.refl _ _) rfl
            refine StepsFr.cons ?_ ?_
            · intro u w hJ hF K hK
              have h33 : u 33 = .bool false := facts_get hF 33 (by simp)
              have h38 : u 38 = .pointer (some ⟨w0.heap.size, 1, none⟩) := facts_get hF 38 (by simp)
              clear hF
              simp only [h33, h38] at hK ⊢
              clear h33 h38
              have hf1 := (hJ.cell (p := ⟨w0.heap.size, 1, none⟩) hlt).trans hy1
              go_simp
              exact hK.out _ _ hJ (Below.refl _ _) rfl
            refine StepsFr.cons ?_ ?_
            · intro u w hJ hF K hK
              have h33 : u 33 = .bool false := facts_get hF 33 (by simp)
              clear hF
              simp only [h33] at hK ⊢
              clear h33
              go_simp
              exact hK.out _ _ hJ (Below.refl _ _) (rfl)
            refine StepsFr.cons ?_ ?_
            · intro u w hJ hF K hK
              have h33 : u 33 = .bool false := facts_get hF 33 (by simp)
              have h39 : u 39 = .slice (some ⟨b, o, none⟩) n c := facts_get hF 39 (by simp)
              have h40 : u 40 = .int .i64 m := facts_get hF 40 (by simp)
              clear hF
              simp only [h33, h39, h40] at hK ⊢
              clear h33 h39 h40
              go_simp
              exact hK.out _ _ hJ (Below.refl _ _) rfl
            refine StepsFr.cons ?_ ?_
            · intro u w hJ hF K hK
              have h33 : u 33 = .bool false := facts_get hF 33 (by simp)
              have h37 : u 37 = .bool false := facts_get hF 37 (by simp)
              have h41 : u 41 = .slice (some ⟨b, o + m, none⟩) (n - m) (c - m) := facts_get hF 41 (by simp)
              clear hF
              simp only [h33, h37, h41] at hK ⊢
              clear h33 h37 h41
              go_simp
              refine (HSG.out _ (HRW.out.up hJ)).mono ?_
              rintro e w' ⟨v, rfl, hv, hb⟩
              exact hK.out _ _ (below_then hJ hb hJ.size) hb (hv)
            refine StepsFr.cons ?_ ?_
            · intro u w hJ hF K hK
              have h33 : u 33 = .bool false := facts_get hF 33 (by simp)
              have h35 : PRef (X) 5 (u 35) w := facts_get hF 35 (by simp)
              have h42 : PRef (vR false L m) 5 (u 42) w := facts_get hF 42 (by simp)
              clear hF
              simp only [h33] at hK ⊢
              clear h33
              go_simp
              refine (HCM.out _ _ _ h35 h42).mono ?_
              rintro e w' ⟨rfl, hb⟩
              exact hK.out _ _ (below_then hJ hb hJ.size) hb (rfl)
            refine StepsFr.cons ?_ ?_
            · intro u w hJ hF K hK
              have h33 : u 33 = .bool false := facts_get hF 33 (by simp)
              have h43 : u 43 = .int .i64 cc := facts_get hF 43 (by simp)
              clear hF
              simp only [h33, h43] at hK ⊢
              clear h33 h43
              go_simp
              exact hK.out _ _ hJ (Below.refl _ _) rfl
            refine StepsFr.cons ?_ ?_
            · intro u w hJ hF K hK
              have h33 : u 33 = .bool false := facts_get hF 33 (by simp)
              have h44 : u 44 = .bool true := facts_get hF 44 (by simp)
              clear hF
              simp only [h33, h44] at hK ⊢
              clear h33 h44
              go_simp
              exact hK.out _ _ hJ (Below.refl _ _) rfl
            exact StepsFr.nil
          · intro u w9 hJ9 hF
            have h45 : u 45 = .bool true := facts_get hF 45 (by simp [rsFL00, temps])
            clear hF
            simp only [h45]
            go_wp2
            go_ret2
            refine ⟨⟨fun hz => absurd (vR_in (hz' hz) (Nat.zero_le m)) hr, fun _ => rfl⟩, ?_⟩
            exact (below_alloc_new _).trans (Below.less (HB.out.trans (Below.less hJ9 hlt)) (by omega))
      · have hst := vR_step true L m (by rw [HLL.out]; omega)
        simp only [Bool.false_eq_true, if_false, if_true] at hst
        have hnl : nth L m < 10000 := nth_all HLR.out.lim (by omega) m
        go_upto_region 9 with (fail)
        have hmi : ((m + 1 : Nat) : Int) - 1 = m := by omega
        rw [hmi, wrap64_sub, ← hst]
        have hX1 := wrap64_lo (vR true L m)
        have hX2 := wrap64_hi (vR true L m)
        have hXi := fun h : inR (vR true L m) => wrap64_inR h
        have hXn := inR_wrap (vR true L m)
        generalize wrap64 (vR true L m) = X at *
        have hlt : w0.heap.size < wr.heap.size := by have := hb.size; simp at this; omega
        have hrow : Row .i64 wr wr.heap.size (some ⟨b, o + m, none⟩) (c - m) (L.drop m) := hrowm _ hb
        have HRW := Lib.hid hrow
        have hrs := fun (V : World) h => rsigned_to (z := vR true L m) true (some ⟨b, o + m, none⟩) (c - m) (L.drop m) (w := V) (by rw [List.length_drop, HLL.out]; omega) rfl (fun d hd => HLR.out.lim d (List.mem_of_mem_drop hd)) h
        have hdl : (L.drop m).length = n - m := by rw [List.length_drop, HLL.out]
        rw [hdl] at hrs
        have HSG := Lib.hid hrs
        have HST := Lib.hid hst
        have HXI := Lib.hid hXi
        have HXN := Lib.hid hXn
        have HB := Lib.hid hb
        have i1 : (0 : Int) ≤ (m : Int) := by omega
        have i2 : (m : Int) ≤ (n : Int) := by omega
        have i3 : (n : Int) ≤ (c : Int) := by omega
        have i4 : ¬ c = m := by omega
        have i5 : ¬ c - m = 0 := by omega
        clear hrow hrs hdl hst hXi hXn hb hcm
        clear hmi
        by_cases hr : inR (vR true L m)
        · have hcx := cmp_eq (HXI.out hr)
          have hcm := fun (V : World) (a a' : Value) (h1 : PRef X 5 a V) (h2 : PRef (vR true L m) 5 a' V) => rcmp_fact h1 h2 (by omega) (by omega)
          generalize cmpI X (vR true L m) = cc at *
          have HCM := Lib.hid hcm
          clear hcm
          refine region_facts (rsFL11 true L m b o n c X cc w0) (fun w' => Below wr.heap.size wr w') [[], [29], [30], [31], [32], [33], [33, 34], [33], [33, 36], [33], [33, 38], [33], [33, 39, 40], [33, 37, 41], [33, 35, 42], [33, 43], [33, 44]] (fun u => by simp only [rsFL11, temps, List.map_cons, List.map_nil, fillL, List.setIfInBounds_toArray, List.set_cons_zero, List.set_cons_succ]; rfl) (by kernel_rfl) (by kernel_rfl) (by kernel_rfl) (below_drew (Below.refl _ _)) ?_ ?_
          · refine StepsFr.cons ?_ ?_
            · intro u w hJ hF K hK
              clear hF
              go_simp
              exact hK.out _ _ hJ (Below.refl _ _) rfl
            refine StepsFr.cons ?_ ?_
            · intro u w hJ hF K hK
              have h29 : u 29 = .pointer (some ⟨w0.heap.size, 1, none⟩) := facts_get hF 29 (by simp)
              clear hF
              simp only [h29] at hK ⊢
              clear h29
              have hf1 := (hJ.cell (p := ⟨w0.heap.size, 1, none⟩) hlt).trans hy1
              go_simp
              exact hK.out _ _ hJ (Below.refl _ _) rfl
            refine StepsFr.cons ?_ ?_
            · intro u w hJ hF K hK
              have h30 : u 30 = .slice (some ⟨b, o, none⟩) n c := facts_get hF 30 (by simp)
              clear hF
              simp only [h30] at hK ⊢
              clear h30
              go_simp
              exact hK.out _ _ hJ (Below.refl _ _) rfl
            refine StepsFr.cons ?_ ?_
            · intro u w hJ hF K hK
              have h31 : u 31 = .int .i64 n := facts_get hF 31 (by simp)
              clear hF
              simp only [h31] at hK ⊢
              clear h31
              go_simp
              exact hK.out _ _ hJ (Below.refl _ _) rfl
            refine StepsFr.cons ?_ ?_
            · intro u w hJ hF K hK
              have h32 : u 32 = .bool false := facts_get hF 32 (by simp)
              clear hF
              simp only [h32] at hK ⊢
              clear h32
              go_simp
              exact hK.out _ _ hJ (Below.refl _ _) (rfl)
            refine StepsFr.cons ?_ ?_
            · intro u w hJ hF K hK
              have h33 : u 33 = .bool false := facts_get hF 33 (by simp)
              clear hF
              simp only [h33] at hK ⊢
              clear h33
              go_simp
              exact hK.out _ _ hJ (Below.refl _ _) (rfl)
            refine StepsFr.cons ?_ ?_
            · intro u w hJ hF K hK
              have h33 : u 33 = .bool false := facts_get hF 33 (by simp)
              have h34 : u 34 = .int .i64 X := facts_get hF 34 (by simp)
              clear hF
              simp only [h33, h34] at hK ⊢
              clear h33 h34
              go_simp
              refine (rof_fact hX1 hX2).mono ?_
              rintro e w' ⟨v, rfl, hv, hb⟩
              exact hK.out _ _ (below_then hJ hb hJ.size) hb (hv)
            refine StepsFr.cons ?_ ?_
            · intro u w hJ hF K hK
              have h33 : u 33 = .bool false := facts_get hF 33 (by simp)
              clear hF
              simp only [h33] at hK ⊢
              clear h33
              go_simp
              exact hK.out _ _ hJ (Below.refl _ _) rfl
            refine StepsFr.cons ?_ ?_
            · intro u w hJ hF K hK
              have h33 : u 33 = .bool false := facts_get hF 33 (by simp)
              have h36 : u 36 = .pointer (some ⟨w0.heap.size, 0, none⟩) := facts_get hF 36 (by simp)
              clear hF
              simp only [h33, h36] at hK ⊢
              clear h33 h36
              have hf0 := (hJ.cell (p := ⟨w0.heap.size, 0, none⟩) hlt).trans hy0
              go_simp
              exact hK.out _ _ hJ (Below.refl _ _) rfl
            refine StepsFr.cons ?_ ?_
            · intro u w hJ hF K hK
              have h33 : u 33 = .bool false := facts_get hF 33 (by simp)
              clear hF
              simp only [h33] at hK ⊢
              clear h33
              go_simp
              exact hK.out _ _ hJ (Below.refl _ _) rfl
            refine StepsFr.cons ?_ ?_
            · intro u w hJ hF K hK
              have h33 : u 33 = .bool false := facts_get hF 33 (by simp)
              have h38 : u 38 = .pointer (some ⟨w0.heap.size, 1, none⟩) := facts_get hF 38 (by simp)
              clear hF
              simp only [h33, h38] at hK ⊢
              clear h33 h38
              have hf1 := (hJ.cell (p := ⟨w0.heap.size, 1, none⟩) hlt).trans hy1
              go_simp
              exact hK.out _ _ hJ (Below.refl _ _) rfl
            refine StepsFr.cons ?_ ?_
            · intro u w hJ hF K hK
              have h33 : u 33 = .bool false := facts_get hF 33 (by simp)
              clear hF
              simp only [h33] at hK ⊢
              clear h33
              go_simp
              exact hK.out _ _ hJ (Below.refl _ _) (rfl)
            refine StepsFr.cons ?_ ?_
            · intro u w hJ hF K hK
              have h33 : u 33 = .bool false := facts_get hF 33 (by simp)
              have h39 : u 39 = .slice (some ⟨b, o, none⟩) n c := facts_get hF 39 (by simp)
              have h40 : u 40 = .int .i64 m := facts_get hF 40 (by simp)
              clear hF
              simp only [h33, h39, h40] at hK ⊢
              clear h33 h39 h40
              go_simp
              exact hK.out _ _ hJ (Below.refl _ _) rfl
            refine StepsFr.cons ?_ ?_
            · intro u w hJ hF K hK
              have h33 : u 33 = .bool false := facts_get hF 33 (by simp)
              have h37 : u 37 = .bool true := facts_get hF 37 (by simp)
              have h41 : u 41 = .slice (some ⟨b, o + m, none⟩) (n - m) (c - m) := facts_get hF 41 (by simp)
              clear hF
              simp only [h33, h37, h41] at hK ⊢
              clear h33 h37 h41
              go_simp
              refine (HSG.out _ (HRW.out.up hJ)).mono ?_
              rintro e w' ⟨v, rfl, hv, hb⟩
              exact hK.out _ _ (below_then hJ hb hJ.size) hb (hv)
            refine StepsFr.cons ?_ ?_
            · intro u w hJ hF K hK
              have h33 : u 33 = .bool false := facts_get hF 33 (by simp)
              have h35 : PRef (X) 5 (u 35) w := facts_get hF 35 (by simp)
              have h42 : PRef (vR true L m) 5 (u 42) w := facts_get hF 42 (by simp)
              clear hF
              simp only [h33] at hK ⊢
              clear h33
              go_simp
              refine (HCM.out _ _ _ h35 h42).mono ?_
              rintro e w' ⟨rfl, hb⟩
              exact hK.out _ _ (below_then hJ hb hJ.size) hb (rfl)
            refine StepsFr.cons ?_ ?_
            · intro u w hJ hF K hK
              have h33 : u 33 = .bool false := facts_get hF 33 (by simp)
              have h43 : u 43 = .int .i64 cc := facts_get hF 43 (by simp)
              clear hF
              simp only [h33, h43] at hK ⊢
              clear h33 h43
              go_simp
              exact hK.out _ _ hJ (Below.refl _ _) rfl
            refine StepsFr.cons ?_ ?_
            · intro u w hJ hF K hK
              have h33 : u 33 = .bool false := facts_get hF 33 (by simp)
              have h44 : u 44 = .bool false := facts_get hF 44 (by simp)
              clear hF
              simp only [h33, h44] at hK ⊢
              clear h33 h44
              go_simp
              exact hK.out _ _ hJ (Below.refl _ _) rfl
            exact StepsFr.nil
          · intro u w9 hJ9 hF
            have h45 : u 45 = .bool false := facts_get hF 45 (by simp [rsFL11, temps])
            clear hF
            simp only [h45]
            go_wp2
            go_roundw
            case rel => exact ⟨m, by omega, by go_num, by rw [HXI.out hr], hr, HB.out.trans (Below.less hJ9 hlt)⟩
            case measure => first | (simp [intOf]; done) | (simp [intOf]; omega)
        · have hcx := cmp_ne (fun h : X = vR true L m => hr (h ▸ HXN.out))
          have hz' := fun hz : inR (zR true L) => (HV0.out ▸ hz : inR (vR true L 0))
          have hcm := fun (V : World) (a a' : Value) (h1 : PRef X 5 a V) (h2 : PRef (vR true L m) 5 a' V) => rcmp_fact h1 h2 (by omega) (by omega)
          generalize cmpI X (vR true L m) = cc at *
          have HCM := Lib.hid hcm
          clear hcm
          refine region_facts (rsFL10 true L m b o n c X cc w0) (fun w' => Below wr.heap.size wr w') [[], [29], [30], [31], [32], [33], [33, 34], [33], [33, 36], [33], [33, 38], [33], [33, 39, 40], [33, 37, 41], [33, 35, 42], [33, 43], [33, 44]] (fun u => by simp only [rsFL10, temps, List.map_cons, List.map_nil, fillL, List.setIfInBounds_toArray, List.set_cons_zero, List.set_cons_succ]; rfl) (by kernel_rfl) (by kernel_rfl) (by kernel_rfl) (below_drew (Below.refl _ _)) ?_ ?_
          · refine StepsFr.cons ?_ ?_
            · intro u w hJ hF K hK
              clear hF
              go_simp
              exact hK.out _ _ hJ (Below.refl _ _) rfl
            refine StepsFr.cons ?_ ?_
            · intro u w hJ hF K hK
              have h29 : u 29 = .pointer (some ⟨w0.heap.size, 1, none⟩) := facts_get hF 29 (by simp)
              clear hF
              simp only [h29] at hK ⊢
              clear h29
              have hf1 := (hJ.cell (p := ⟨w0.heap.size, 1, none⟩) hlt).trans hy1
              go_simp
              exact hK.out _ _ hJ (Below.refl _ _) rfl
            refine StepsFr.cons ?_ ?_
            · intro u w hJ hF K hK
              have h30 : u 30 = .slice (some ⟨b, o, none⟩) n c := facts_get hF 30 (by simp)
              clear hF
              simp only [h30] at hK ⊢
              clear h30
              go_simp
              exact hK.out _ _ hJ (Below.refl _ _) rfl
            refine StepsFr.cons ?_ ?_
            · intro u w hJ hF K hK
              have h31 : u 31 = .int .i64 n := facts_get hF 31 (by simp)
              clear hF
              simp only [h31] at hK ⊢
              clear h31
              go_simp
              exact hK.out _ _ hJ (Below.refl _ _) rfl
            refine StepsFr.cons ?_ ?_
            · intro u w hJ hF K hK
              have h32 : u 32 = .bool false := facts_get hF 32 (by simp)
              clear hF
              simp only [h32] at hK ⊢
              clear h32
              go_simp
              exact hK.out _ _ hJ (Below.refl _ _) (rfl)
            refine StepsFr.cons ?_ ?_
            · intro u w hJ hF K hK
              have h33 : u 33 = .bool false := facts_get hF 33 (by simp)
              clear hF
              simp only [h33] at hK ⊢
              clear h33
              go_simp
              exact hK.out _ _ hJ (Below.refl _ _) (rfl)
            refine StepsFr.cons ?_ ?_
            · intro u w hJ hF K hK
              have h33 : u 33 = .bool false := facts_get hF 33 (by simp)
              have h34 : u 34 = .int .i64 X := facts_get hF 34 (by simp)
              clear hF
              simp only [h33, h34] at hK ⊢
              clear h33 h34
              go_simp
              refine (rof_fact hX1 hX2).mono ?_
              rintro e w' ⟨v, rfl, hv, hb⟩
              exact hK.out _ _ (below_then hJ hb hJ.size) hb (hv)
            refine StepsFr.cons ?_ ?_
            · intro u w hJ hF K hK
              have h33 : u 33 = .bool false := facts_get hF 33 (by simp)
              clear hF
              simp only [h33] at hK ⊢
              clear h33
              go_simp
              exact hK.out _ _ hJ (Below.refl _ _) rfl
            refine StepsFr.cons ?_ ?_
            · intro u w hJ hF K hK
              have h33 : u 33 = .bool false := facts_get hF 33 (by simp)
              have h36 : u 36 = .pointer (some ⟨w0.heap.size, 0, none⟩) := facts_get hF 36 (by simp)
              clear hF
              simp only [h33, h36] at hK ⊢
              clear h33 h36
              have hf0 := (hJ.cell (p := ⟨w0.heap.size, 0, none⟩) hlt).trans hy0
              go_simp
              exact hK.out _ _ hJ (Below.refl _ _) rfl
            refine StepsFr.cons ?_ ?_
            · intro u w hJ hF K hK
              have h33 : u 33 = .bool false := facts_get hF 33 (by simp)
              clear hF
              simp only [h33] at hK ⊢
              clear h33
              go_simp
              exact hK.out _ _ hJ (Below.refl _ _) rfl
            refine StepsFr.cons ?_ ?_
            · intro u w hJ hF K hK
              have h33 : u 33 = .bool false := facts_get hF 33 (by simp)
              have h38 : u 38 = .pointer (some ⟨w0.heap.size, 1, none⟩) := facts_get hF 38 (by simp)
              clear hF
              simp only [h33, h38] at hK ⊢
              clear h33 h38
              have hf1 := (hJ.cell (p := ⟨w0.heap.size, 1, none⟩) hlt).trans hy1
              go_simp
              exact hK.out _ _ hJ (Below.refl _ _) rfl
            refine StepsFr.cons ?_ ?_
            · intro u w hJ hF K hK
              have h33 : u 33 = .bool false := facts_get hF 33 (by simp)
              clear hF
              simp only [h33] at hK ⊢
              clear h33
              go_simp
              exact hK.out _ _ hJ (Below.refl _ _) (rfl)
            refine StepsFr.cons ?_ ?_
            · intro u w hJ hF K hK
              have h33 : u 33 = .bool false := facts_get hF 33 (by simp)
              have h39 : u 39 = .slice (some ⟨b, o, none⟩) n c := facts_get hF 39 (by simp)
              have h40 : u 40 = .int .i64 m := facts_get hF 40 (by simp)
              clear hF
              simp only [h33, h39, h40] at hK ⊢
              clear h33 h39 h40
              go_simp
              exact hK.out _ _ hJ (Below.refl _ _) rfl
            refine StepsFr.cons ?_ ?_
            · intro u w hJ hF K hK
              have h33 : u 33 = .bool false := facts_get hF 33 (by simp)
              have h37 : u 37 = .bool true := facts_get hF 37 (by simp)
              have h41 : u 41 = .slice (some ⟨b, o + m, none⟩) (n - m) (c - m) := facts_get hF 41 (by simp)
              clear hF
              simp only [h33, h37, h41] at hK ⊢
              clear h33 h37 h41
              go_simp
              refine (HSG.out _ (HRW.out.up hJ)).mono ?_
              rintro e w' ⟨v, rfl, hv, hb⟩
              exact hK.out _ _ (below_then hJ hb hJ.size) hb (hv)
            refine StepsFr.cons ?_ ?_
            · intro u w hJ hF K hK
              have h33 : u 33 = .bool false := facts_get hF 33 (by simp)
              have h35 : PRef (X) 5 (u 35) w := facts_get hF 35 (by simp)
              have h42 : PRef (vR true L m) 5 (u 42) w := facts_get hF 42 (by simp)
              clear hF
              simp only [h33] at hK ⊢
              clear h33
              go_simp
              refine (HCM.out _ _ _ h35 h42).mono ?_
              rintro e w' ⟨rfl, hb⟩
              exact hK.out _ _ (below_then hJ hb hJ.size) hb (rfl)
            refine StepsFr.cons ?_ ?_
            · intro u w hJ hF K hK
              have h33 : u 33 = .bool false := facts_get hF 33 (by simp)
              have h43 : u 43 = .int .i64 cc := facts_get hF 43 (by simp)
              clear hF
              simp only [h33, h43] at hK ⊢
              clear h33 h43
              go_simp
              exact hK.out _ _ hJ (Below.refl _ _) rfl
            refine StepsFr.cons ?_ ?_
            · intro u w hJ hF K hK
              have h33 : u 33 = .bool false := facts_get hF 33 (by simp)
              have h44 : u 44 = .bool true := facts_get hF 44 (by simp)
              clear hF
              simp only [h33, h44] at hK ⊢
              clear h33 h44
              go_simp
              exact hK.out _ _ hJ (Below.refl _ _) rfl
            exact StepsFr.nil
          · intro u w9 hJ9 hF
            have h45 : u 45 = .bool true := facts_get hF 45 (by simp [rsFL10, temps])
            clear hF
            simp only [h45]
            go_wp2
            go_ret2
            refine ⟨⟨fun hz => absurd (vR_in (hz' hz) (Nat.zero_le m)) hr, fun _ => rfl⟩, ?_⟩
            exact (below_alloc_new _).trans (Below.less (HB.out.trans (Below.less hJ9 hlt)) (by omega))
theorem big_out {w : World} {B : Nat} {k : Bool} {A : Option Addr} {c : Nat} {L : List Nat} (h : RefR w B k A c L) (hl : 5 < L.length) : ¬ inR (zR k L) := by
  have h2 : (10000 : Nat) ^ 5 ≤ 10000 ^ (L.length - 1) := Nat.pow_le_pow_right (by omega) (by omega)
  have h3 := valB_take_succ 10000 L (L.length - 1) (by omega)
  rw [show L.length - 1 + 1 = L.length by omega, List.take_of_length_le (Nat.le_refl _)] at h3
  have h4 := h.top (by omega)
  have h5 : 10000 ^ (L.length - 1) * 1 ≤ 10000 ^ (L.length - 1) * nth L (L.length - 1) := Nat.mul_le_mul_left _ (by omega)
  have h6 : 100000000000000000000 ≤ val4 L := by unfold val4; omega
  unfold inR zR minI maxI
  cases k <;> simp <;> omega

set_option maxRecDepth 20000 in
set_option maxHeartbeats 3200000 in
theorem rsmall_nil (A : Option Addr) (c : Nat) (w : World) :
    Calls Tryd.prog 23 #[.agg #[.bool false, .slice A 0 c]] w fun e w' => e = .returned (.tuple #[.int .i64 0, .bool true]) ∧ Below w.heap.size w w' := by
  go_enter Tryd.func23, Tryd.ntmps23
  go_wp2
  go_loopw [4, 5] (fun nv iv wr => iv = .int .i64 (-1) ∧ nv = .int .i64 0 ∧ Below w.heap.size w wr) (fun _ iv _ => (intOf iv + 1).toNat)
  case atStart => exact ⟨by first | rfl | (simp; done), rfl, below_alloc_new _⟩
  case round =>
    obtain ⟨rfl, rfl, hb⟩ := hrel
    go_wp2
    go_ret2
    exact ⟨rfl, hb⟩

def rsFLL0 (b o m c : Nat) (w0 : World) : List (Nat × Fact) := [(29, .is (.pointer (some ⟨w0.heap.size, 1, none⟩))), (30, .is (.slice (some ⟨b, o, none⟩) (m + 1) c)), (31, .is (.int .i64 ((m : Int) + 1))), (32, .is (.bool true)), (33, .is (.bool true)), (34, .is undef), (35, .is undef), (36, .is undef), (37, .is undef), (38, .is undef), (39, .is undef), (40, .is undef), (41, .is undef), (42, .is undef), (43, .is undef), (44, .is undef), (45, .is (.bool true))]
def rsFLL1 (b o m c : Nat) (w0 : World) : List (Nat × Fact) := [(29, .is (.pointer (some ⟨w0.heap.size, 1, none⟩))), (30, .is (.slice (some ⟨b, o, none⟩) (m + 1) c)), (31, .is (.int .i64 ((m : Int) + 1))), (32, .is (.bool true)), (33, .is (.bool true)), (34, .is undef), (35, .is undef), (36, .is undef), (37, .is undef), (38, .is undef), (39, .is undef), (40, .is undef), (41, .is undef), (42, .is undef), (43, .is undef), (44, .is undef), (45, .is (.bool true))]

set_option maxRecDepth 20000 in
set_option maxHeartbeats 3200000 in
theorem rsmall_long (k : Bool) (A : Option Addr) (c : Nat) (L : List Nat) (w0 : World) (hl : L.length ≤ 1000000) (hn0 : 5 < L.length) (hL : RefR w0 w0.heap.size k A c L) :
    Calls Tryd.prog 23 #[.agg #[.bool k, .slice A L.length c]] w0 fun e w' => RSmallPost (zR k L) e ∧ Below w0.heap.size w0 w' := by
  obtain ⟨b, o, rfl, hbB, hcs⟩ := hL.row.spot (by omega)
  have HNO := Lib.hid (big_out hL hn0)
  have HLIM := Lib.hid hL.lim
  have hlc := hL.row.len
  have hcm := hcs (L.length - 1) (by omega)
  clear hcs hL
  generalize hl' : L.length = n at *
  have HLL := Lib.hid hl'
  clear hl'
  obtain ⟨m, rfl⟩ : ∃ m, n = m + 1 := ⟨n - 1, by omega⟩
  have hcm2 : (w0.alloc (.cells #[.bool k, .slice (some ⟨b, o, none⟩) (m + 1) c] 31)).cell? ⟨b, o + m, none⟩ = some (.int .i64 (nth L m)) := ((below_alloc_new _).cell (by exact hbB)).trans hcm
  have hnl : nth L m < 10000 := nth_all HLIM.out (by omega) m
  have hy := boxed2 (Below.refl (w0.heap.size + 1) (w0.alloc (.cells #[.bool k, .slice (some ⟨b, o, none⟩) (m + 1) c] 31)))
  have hy0 := hy.1
  have hy1 := hy.2
  have hd5 : decide (5 < (m : Int) + 1) = true := by simp; omega
  have hm1 : (m : Int) + 1 - 1 = m := by omega
  have HY0 := Lib.hid hy0
  have HY1 := Lib.hid hy1
  have HD5 := Lib.hid hd5
  have HM1 := Lib.hid hm1
  have HCM2 := Lib.hid hcm2
  clear hy hy0 hy1 hd5 hm1 hcm2 hcm
  go_enter Tryd.func23, Tryd.ntmps23
  go_wp2
  go_loopw [4, 5] (fun nv iv wr => iv = .int .i64 (m : Int) ∧ nv = .int .i64 0 ∧ wr = w0.alloc (.cells #[.bool k, .slice (some ⟨b, o, none⟩) (m + 1) c] 31)) (fun _ iv _ => (intOf iv + 1).toNat)
  case atStart => exact ⟨by simp, rfl, rfl⟩
  case round =>
    obtain ⟨rfl, rfl, rfl⟩ := hrel
    have hy0 := HY0.out
    have hy1 := HY1.out
    have hd5 := HD5.out
    have hcm2 := HCM2.out
    have hlt : w0.heap.size < (w0.alloc (.cells #[.bool k, .slice (some ⟨b, o, none⟩) (m + 1) c] 31)).heap.size := by simp
    cases k
    · go_upto_region 9 with (fail)
      refine region_facts (rsFLL0 b o m c w0) (fun w' => Below (w0.alloc (.cells #[.bool false, .slice (some ⟨b, o, none⟩) (m + 1) c] 31)).heap.size (w0.alloc (.cells #[.bool false, .slice (some ⟨b, o, none⟩) (m + 1) c] 31)) w') [[], [29], [30], [31], [32], [33], [33], [33], [33], [33], [33], [33], [33], [33], [33], [33], [33, 44]] (fun u => by simp only [rsFLL0, temps, List.map_cons, List.map_nil, fillL, List.setIfInBounds_toArray, List.set_cons_zero, List.set_cons_succ]; rfl) (by kernel_rfl) (by kernel_rfl) (by kernel_rfl) (below_drew (Below.refl _ _)) ?_ ?_
      · refine StepsFr.cons ?_ ?_
        · intro u w hJ hF K hK
          clear hF
          go_simp
          exact hK.out _ _ hJ (Below.refl _ _) rfl
        refine StepsFr.cons ?_ ?_
        · intro u w hJ hF K hK
          have h29 : u 29 = .pointer (some ⟨w0.heap.size, 1, none⟩) := facts_get hF 29 (by simp)
          clear hF
          simp only [h29] at hK ⊢
          clear h29
          have hf1 := (hJ.cell (p := ⟨w0.heap.size, 1, none⟩) hlt).trans hy1
          go_simp
          exact hK.out _ _ hJ (Below.refl _ _) rfl
        refine StepsFr.cons ?_ ?_
        · intro u w hJ hF K hK
          have h30 : u 30 = .slice (some ⟨b, o, none⟩) (m + 1) c := facts_get hF 30 (by simp)
          clear hF
          simp only [h30] at hK ⊢
          clear h30
          go_simp
          exact hK.out _ _ hJ (Below.refl _ _) rfl
        refine StepsFr.cons ?_ ?_
        · intro u w hJ hF K hK
          have h31 : u 31 = .int .i64 ((m : Int) + 1) := facts_get hF 31 (by simp)
          clear hF
          simp only [h31] at hK ⊢
          clear h31
          go_simp
          exact hK.out _ _ hJ (Below.refl _ _) rfl
        refine StepsFr.cons ?_ ?_
        · intro u w hJ hF K hK
          have h32 : u 32 = .bool true := facts_get hF 32 (by simp)
          clear hF
          simp only [h32] at hK ⊢
          clear h32
          go_simp
          exact hK.out _ _ hJ (Below.refl _ _) (rfl)
        refine StepsFr.cons ?_ ?_
        · intro u w hJ hF K hK
          have h33 : u 33 = .bool true := facts_get hF 33 (by simp)
          clear hF
          simp only [h33] at hK ⊢
          clear h33
          go_simp
          exact hK.out _ _ hJ (Below.refl _ _) rfl
        refine StepsFr.cons ?_ ?_
        · intro u w hJ hF K hK
          have h33 : u 33 = .bool true := facts_get hF 33 (by simp)
          clear hF
          simp only [h33] at hK ⊢
          clear h33
          go_simp
          exact hK.out _ _ hJ (Below.refl _ _) rfl
        refine StepsFr.cons ?_ ?_
        · intro u w hJ hF K hK
          have h33 : u 33 = .bool true := facts_get hF 33 (by simp)
          clear hF
          simp only [h33] at hK ⊢
          clear h33
          go_simp
          exact hK.out _ _ hJ (Below.refl _ _) rfl
        refine StepsFr.cons ?_ ?_
        · intro u w hJ hF K hK
          have h33 : u 33 = .bool true := facts_get hF 33 (by simp)
          clear hF
          simp only [h33] at hK ⊢
          clear h33
          go_simp
          exact hK.out _ _ hJ (Below.refl _ _) rfl
        refine StepsFr.cons ?_ ?_
        · intro u w hJ hF K hK
          have h33 : u 33 = .bool true := facts_get hF 33 (by simp)
          clear hF
          simp only [h33] at hK ⊢
          clear h33
          go_simp
          exact hK.out _ _ hJ (Below.refl _ _) rfl
        refine StepsFr.cons ?_ ?_
        · intro u w hJ hF K hK
          have h33 : u 33 = .bool true := facts_get hF 33 (by simp)
          clear hF
          simp only [h33] at hK ⊢
          clear h33
          go_simp
          exact hK.out _ _ hJ (Below.refl _ _) rfl
        refine StepsFr.cons ?_ ?_
        · intro u w hJ hF K hK
          have h33 : u 33 = .bool true := facts_get hF 33 (by simp)
          clear hF
          simp only [h33] at hK ⊢
          clear h33
          go_simp
          exact hK.out _ _ hJ (Below.refl _ _) rfl
        refine StepsFr.cons ?_ ?_
        · intro u w hJ hF K hK
          have h33 : u 33 = .bool true := facts_get hF 33 (by simp)
          clear hF
          simp only [h33] at hK ⊢
          clear h33
          go_simp
          exact hK.out _ _ hJ (Below.refl _ _) rfl
        refine StepsFr.cons ?_ ?_
        · intro u w hJ hF K hK
          have h33 : u 33 = .bool true := facts_get hF 33 (by simp)
          clear hF
          simp only [h33] at hK ⊢
          clear h33
          go_simp
          exact hK.out _ _ hJ (Below.refl _ _) rfl
        refine StepsFr.cons ?_ ?_
        · intro u w hJ hF K hK
          have h33 : u 33 = .bool true := facts_get hF 33 (by simp)
          clear hF
          simp only [h33] at hK ⊢
          clear h33
          go_simp
          exact hK.out _ _ hJ (Below.refl _ _) rfl
        refine StepsFr.cons ?_ ?_
        · intro u w hJ hF K hK
          have h33 : u 33 = .bool true := facts_get hF 33 (by simp)
          clear hF
          simp only [h33] at hK ⊢
          clear h33
          go_simp
          exact hK.out _ _ hJ (Below.refl _ _) rfl
        refine StepsFr.cons ?_ ?_
        · intro u w hJ hF K hK
          have h33 : u 33 = .bool true := facts_get hF 33 (by simp)
          have h44 : u 44 = undef := facts_get hF 44 (by simp)
          clear hF
          simp only [h33, h44] at hK ⊢
          clear h33 h44
          go_simp
          exact hK.out _ _ hJ (Below.refl _ _) rfl
        exact StepsFr.nil
      · intro u w9 hJ9 hF
        have h45 : u 45 = .bool true := facts_get hF 45 (by simp [rsFLL0, temps])
        clear hF
        simp only [h45]
        go_wp2
        go_ret2
        refine ⟨⟨fun hz => absurd hz HNO.out, fun _ => rfl⟩, ?_⟩
        exact (below_alloc_new _).trans (Below.less hJ9 (by simp))
    · go_upto_region 9 with (fail)
      refine region_facts (rsFLL1 b o m c w0) (fun w' => Below (w0.alloc (.cells #[.bool true, .slice (some ⟨b, o, none⟩) (m + 1) c] 31)).heap.size (w0.alloc (.cells #[.bool true, .slice (some ⟨b, o, none⟩) (m + 1) c] 31)) w') [[], [29], [30], [31], [32], [33], [33], [33], [33], [33], [33], [33], [33], [33], [33], [33], [33, 44]] (fun u => by simp only [rsFLL1, temps, List.map_cons, List.map_nil, fillL, List.setIfInBounds_toArray, List.set_cons_zero, List.set_cons_succ]; rfl) (by kernel_rfl) (by kernel_rfl) (by kernel_rfl) (below_drew (Below.refl _ _)) ?_ ?_
      · refine StepsFr.cons ?_ ?_
        · intro u w hJ hF K hK
          clear hF
          go_simp
          exact hK.out _ _ hJ (Below.refl _ _) rfl
        refine StepsFr.cons ?_ ?_
        · intro u w hJ hF K hK
          have h29 : u 29 = .pointer (some ⟨w0.heap.size, 1, none⟩) := facts_get hF 29 (by simp)
          clear hF
          simp only [h29] at hK ⊢
          clear h29
          have hf1 := (hJ.cell (p := ⟨w0.heap.size, 1, none⟩) hlt).trans hy1
          go_simp
          exact hK.out _ _ hJ (Below.refl _ _) rfl
        refine StepsFr.cons ?_ ?_
        · intro u w hJ hF K hK
          have h30 : u 30 = .slice (some ⟨b, o, none⟩) (m + 1) c := facts_get hF 30 (by simp)
          clear hF
          simp only [h30] at hK ⊢
          clear h30
          go_simp
          exact hK.out _ _ hJ (Below.refl _ _) rfl
        refine StepsFr.cons ?_ ?_
        · intro u w hJ hF K hK
          have h31 : u 31 = .int .i64 ((m : Int) + 1) := facts_get hF 31 (by simp)
          clear hF
          simp only [h31] at hK ⊢
          clear h31
          go_simp
          exact hK.out _ _ hJ (Below.refl _ _) rfl
        refine StepsFr.cons ?_ ?_
        · intro u w hJ hF K hK
          have h32 : u 32 = .bool true := facts_get hF 32 (by simp)
          clear hF
          simp only [h32] at hK ⊢
          clear h32
          go_simp
          exact hK.out _ _ hJ (Below.refl _ _) (rfl)
        refine StepsFr.cons ?_ ?_
        · intro u w hJ hF K hK
          have h33 : u 33 = .bool true := facts_get hF 33 (by simp)
          clear hF
          simp only [h33] at hK ⊢
          clear h33
          go_simp
          exact hK.out _ _ hJ (Below.refl _ _) rfl
        refine StepsFr.cons ?_ ?_
        · intro u w hJ hF K hK
          have h33 : u 33 = .bool true := facts_get hF 33 (by simp)
          clear hF
          simp only [h33] at hK ⊢
          clear h33
          go_simp
          exact hK.out _ _ hJ (Below.refl _ _) rfl
        refine StepsFr.cons ?_ ?_
        · intro u w hJ hF K hK
          have h33 : u 33 = .bool true := facts_get hF 33 (by simp)
          clear hF
          simp only [h33] at hK ⊢
          clear h33
          go_simp
          exact hK.out _ _ hJ (Below.refl _ _) rfl
        refine StepsFr.cons ?_ ?_
        · intro u w hJ hF K hK
          have h33 : u 33 = .bool true := facts_get hF 33 (by simp)
          clear hF
          simp only [h33] at hK ⊢
          clear h33
          go_simp
          exact hK.out _ _ hJ (Below.refl _ _) rfl
        refine StepsFr.cons ?_ ?_
        · intro u w hJ hF K hK
          have h33 : u 33 = .bool true := facts_get hF 33 (by simp)
          clear hF
          simp only [h33] at hK ⊢
          clear h33
          go_simp
          exact hK.out _ _ hJ (Below.refl _ _) rfl
        refine StepsFr.cons ?_ ?_
        · intro u w hJ hF K hK
          have h33 : u 33 = .bool true := facts_get hF 33 (by simp)
          clear hF
          simp only [h33] at hK ⊢
          clear h33
          go_simp
          exact hK.out _ _ hJ (Below.refl _ _) rfl
        refine StepsFr.cons ?_ ?_
        · intro u w hJ hF K hK
          have h33 : u 33 = .bool true := facts_get hF 33 (by simp)
          clear hF
          simp only [h33] at hK ⊢
          clear h33
          go_simp
          exact hK.out _ _ hJ (Below.refl _ _) rfl
        refine StepsFr.cons ?_ ?_
        · intro u w hJ hF K hK
          have h33 : u 33 = .bool true := facts_get hF 33 (by simp)
          clear hF
          simp only [h33] at hK ⊢
          clear h33
          go_simp
          exact hK.out _ _ hJ (Below.refl _ _) rfl
        refine StepsFr.cons ?_ ?_
        · intro u w hJ hF K hK
          have h33 : u 33 = .bool true := facts_get hF 33 (by simp)
          clear hF
          simp only [h33] at hK ⊢
          clear h33
          go_simp
          exact hK.out _ _ hJ (Below.refl _ _) rfl
        refine StepsFr.cons ?_ ?_
        · intro u w hJ hF K hK
          have h33 : u 33 = .bool true := facts_get hF 33 (by simp)
          clear hF
          simp only [h33] at hK ⊢
          clear h33
          go_simp
          exact hK.out _ _ hJ (Below.refl _ _) rfl
        refine StepsFr.cons ?_ ?_
        · intro u w hJ hF K hK
          have h33 : u 33 = .bool true := facts_get hF 33 (by simp)
          clear hF
          simp only [h33] at hK ⊢
          clear h33
          go_simp
          exact hK.out _ _ hJ (Below.refl _ _) rfl
        refine StepsFr.cons ?_ ?_
        · intro u w hJ hF K hK
          have h33 : u 33 = .bool true := facts_get hF 33 (by simp)
          have h44 : u 44 = undef := facts_get hF 44 (by simp)
          clear hF
          simp only [h33, h44] at hK ⊢
          clear h33 h44
          go_simp
          exact hK.out _ _ hJ (Below.refl _ _) rfl
        exact StepsFr.nil
      · intro u w9 hJ9 hF
        have h45 : u 45 = .bool true := facts_get hF 45 (by simp [rsFLL1, temps])
        clear hF
        simp only [h45]
        go_wp2
        go_ret2
        refine ⟨⟨fun hz => absurd hz HNO.out, fun _ => rfl⟩, ?_⟩
        exact (below_alloc_new _).trans (Below.less hJ9 (by simp))
end Go.Proofs.YtbfbijokhlkekaaDoor

/- What the rows' condition on listed variables gives; a step of every row's proof. -/
namespace Go.Proofs.YtbfbijokhlkekaaDoor
open Go.ChangeShapes Go.WideShapes Go.ChangeAt Go.WideMaps Go.WideElems Go.RowKit

theorem own : ownKnob Tryd.prog.godebug = none := by kernel_rfl
/-- The list of the listed variables. -/
abbrev laidL : List (String × DataW Unit) := [("math/bits.deBruijn32tab", Rows.laid_math_bits_deBruijn32tab), ("math/bits.deBruijn64tab", Rows.laid_math_bits_deBruijn64tab), ("internal/strconv.uint64pow10", Rows.laid_internal_strconv_uint64pow10)]
theorem door_met (os : Os) (args : Array Value) : laidMetH Tryd.prog laidL ((World.doorLaid Tryd.prog 400 os).forCall (fun _ _ => 0) ⟨#[], args, []⟩).memory :=
  laidMetH_of_parts3 (fuel := 8) (laidMet_of_run' 8 (by kernel_rfl) (by kernel_rfl)) (by kernel_rfl) (by kernel_rfl)

theorem pow_is : Rows.laid_internal_strconv_uint64pow10 (H := Unit) = Lib.tabData .u64 Lib.pow10Tab := by kernel_rfl
theorem tab_of_laid {W : World} (h : laidMetH Tryd.prog laidL W) : Tab W.heap.size W := by
  rw [MakeChecks.laidMetH_plain _ _ _ (by kernel_rfl)] at h
  obtain ⟨ps, ⟨g0, t0, cs0, f0, p0, q0, hg0, ht0, hv0, hd0, ⟨g1, t1, cs1, f1, p1, q1, hg1, ht1, hv1, hd1, ⟨g2, t2, cs2, f2, p2, q2, hg2, ht2, hv2, hd2, _, _⟩, _⟩, _⟩, _, _⟩ := h
  have hg : Tryd.prog.globalNamed "internal/strconv.uint64pow10" = some g2 := hg2
  have hgg : Tryd.prog.globalNamed "internal/strconv.uint64pow10" = some 0 := by kernel_rfl
  have hty : (Tryd.prog.globals[0]?).map (·.type) = some 104 := by kernel_rfl
  obtain rfl := Option.some.inj (hgg.symm.trans hg2)
  obtain rfl := Option.some.inj (hty.symm.trans ht2)
  refine Lib.tabBelow_of_tabIs ?_
  unfold Lib.TabIs
  rw [hv2]
  rw [pow_is] at hd2
  rw [← Lib.cells_of_tab Tryd.underlying104 Tryd.underlying67 (by kernel_rfl) (by kernel_rfl) hd2]

/-- The last step of a row whose call makes memory and leaves the old memory as it was. -/
theorem post_below {H : Type} {enc : TypeId × Value → H} {P : Program} {f : Func} {s : ChangeSpec} {ap fr ho ag : Bool} {W W' : World} {args : Array Value} {v : Value} {ds gs : List (DataW H)} {before pa pv : List MemPlace}
    (hW : DataW.Whole enc P f.params.toList s.vars ap W args.toList ds gs before)
    (hres : ∀ (b : Nat) (sp : Nat → Bool) (hd : Bool), DataW.TrodAll enc P W' b sp hd f.resultTypes.toList (v.resultList f.resultTypes.size) (s.fn H (ds ++ gs)).results [])
    (hargs : ∀ sp : Nat → Bool, (∀ p ∈ before, sp p.block = true) → DataW.TrodAll enc P W' 0 sp true f.params.toList args.toList (s.fn H (ds ++ gs)).args pa)
    (hvars : ∀ sp : Nat → Bool, (∀ p ∈ before, sp p.block = true) → DataW.TrodVars enc P W' sp s.vars (s.fn H (ds ++ gs)).vars pv)
    (hps : before = pa ++ pv) (hb : Below W.heap.size W W')
    (hok : ∀ (j : Nat) (t : TypeId) (r : Value), f.resultTypes[j]? = some t → (v.resultList f.resultTypes.size)[j]? = some r → Value.okWide P W' .any 0 t r) : s.post enc P f ap fr ho ag W args v W' := by
  have hlt : ∀ p ∈ before, p.block < W.heap.size := fun p hp => hW.lt p hp
  have hin : ∀ p ∈ before, (fun b => decide (b < W.heap.size)) p.block = true := fun p hp => by simpa using hlt p hp
  refine ⟨ds, gs, before, [], pa, pv, hW, hres _ _ _, hargs _ hin, hvars _ hin, World.keptBut_mono (fun p hp => ⟨hp, .inr (List.mem_append.1 (hps ▸ hp))⟩) (hb.frame (· ∈ before)), fun _ => ?_⟩
  obtain ⟨_, _, _, _, _, hz, hn⟩ := hW
  refine ⟨hok, _, _, ([] ++ pa) ++ pv, ⟨[] ++ pa, pv, trodAll_append (hargs _ (fun _ _ => rfl)) (hres _ _ _), hvars _ (fun _ _ => rfl), rfl, fun b off hp => ?_, fun ha => ?_⟩, ?_⟩
  · have hbe : MemPlace.cell b off ∈ before := by rw [hps]; simpa using hp
    rw [hb.frozen (hlt _ hbe)]
    exact hz b off hbe
  · have h9 := hn ha
    rw [hps] at h9
    simpa using h9
  · intro p hp _
    rw [hps, ← List.nil_append pa]
    exact hp
end Go.Proofs.YtbfbijokhlkekaaDoor
