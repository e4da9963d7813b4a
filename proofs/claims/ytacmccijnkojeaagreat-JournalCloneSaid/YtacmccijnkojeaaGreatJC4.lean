/- Contracts of the functions that the statements reach, part 4: what was proved of each, callees first. -/
import Derived.Shelf.SlGeneric
import Derived.Laws.RangeAny
import Derived.Test.YtacmccijnkojeaaGreatJC3
namespace Go.Proofs.YtacmccijnkojeaaGreat.AK
open Go Go.RowKit
open Go.Proofs.YtacmccijnkojeaaGreat.AS (edgesOk needsOk onceOk waits2 limOk allWritten allocsOk aOk Apart Written Written.more getD_flag)
variable {Rp Kp : World → World → Prop}
def storesOk (ops : Array Oper) (pt : List (List Nat)) (st : List Nat) (js : List (List Nat)) : Bool :=
 (List.range st.length).all fun m => decide (st.getD m 0 < ops.size) &&
  (Nat.beq m 0 || Region.waitsFor .any ops (st.getD m 0) (st.getD (m - 1) 0)) && (js.getD (m + 1) []).all fun d => (pt.getD (st.getD m 0) []).contains d || (js.getD m []).contains d || (match ops[st.getD m 0]? with | some o => o.dst == some d | none => false)
def lowOk (ops : Array Oper) (st ln : List Nat) : Bool :=
 (List.range ops.size).all fun i => Nat.beq (ln.getD i 0) 0 || (decide (ln.getD i 0 ≤ st.length) && waits2 ops i (st.getD (ln.getD i 0 - 1) 0))
def chk (al : List Nat) (ops : Array Oper) (pt : List (List Nat)) (ds st : List Nat) (js : List (List Nat)) (lm ln : List Nat) : Bool :=
 lowOk ops st ln && (allocsOk ops al st && al.all ds.contains && edgesOk ops && needsOk ops pt ds && onceOk ops && storesOk ops pt st js && limOk ops st lm && allWritten ops ds && (js.getD 0 []).isEmpty)
structure Chk (al : List Nat) (ops : Array Oper) (pt : List (List Nat)) (ds st : List Nat) (js : List (List Nat)) (lm ln : List Nat) : Prop where
 low : ∀ i, i < ops.size → ln.getD i 0 = 0 ∨ (ln.getD i 0 ≤ st.length ∧ waits2 ops i (st.getD (ln.getD i 0 - 1) 0) = true)
 edge : ∀ (i : Nat) (o : Oper), ops[i]? = some o → ∀ e ∈ o.after, Region.binds .any e = true → e.on < i
 dst : ∀ (i : Nat) (o : Oper), ops[i]? = some o → ∀ d, o.dst = some d → d ∈ ds
 need : ∀ (i : Nat) (o : Oper), ops[i]? = some o → ∀ d ∈ pt.getD i [], ∃ e ∈ o.after, Region.binds .any e = true ∧ ((∃ o' : Oper, ops[e.on]? = some o' ∧ o'.dst = some d) ∨ d ∈ pt.getD e.on [])
 once : ∀ (i j : Nat) (o o' : Oper) (d : Nat), ops[i]? = some o → ops[j]? = some o' → o.dst = some d → o'.dst = some d → i = j
 slt : ∀ m, m < st.length → st.getD m 0 < ops.size
 schain : ∀ m, 0 < m → m < st.length → Region.waitsFor .any ops (st.getD m 0) (st.getD (m - 1) 0) = true
 sjs : ∀ m, m < st.length → ∀ d ∈ js.getD (m + 1) [], d ∈ pt.getD (st.getD m 0) [] ∨ d ∈ js.getD m [] ∨ ∃ o : Oper, ops[st.getD m 0]? = some o ∧ o.dst = some d
 lim : ∀ i, i < ops.size → lm.getD i st.length = st.length ∨ waits2 ops (st.getD (lm.getD i st.length) ops.size) i = true
 wr : ∀ d ∈ ds, ∃ (i : Nat) (o : Oper), ops[i]? = some o ∧ o.dst = some d
 js0 : js.getD 0 [] = []
 alw : ∀ d ∈ al, ∀ m, m < st.length → ∃ (i : Nat) (o : Oper), ops[i]? = some o ∧ o.dst = some d ∧ waits2 ops (st.getD m 0) i = true
 ald : ∀ d ∈ al, d ∈ ds
section
variable {ops : Array Oper} {ds st lm ln al : List Nat} {js pt : List (List Nat)}
theorem chk_spec (h : chk al ops pt ds st js lm ln = true) : Chk al ops pt ds st js lm ln := by
 unfold chk at h
 simp only [Bool.and_eq_true] at h
 obtain ⟨h10, ⟨⟨⟨⟨⟨⟨⟨h8, h9⟩, h1⟩, h2⟩, h3⟩, h4⟩, h5⟩, h6⟩, h7⟩ := h
 have lt : ∀ (i : Nat) (o : Oper), ops[i]? = some o → i ∈ List.range ops.size := fun i o ho => List.mem_range.2 (Array.getElem?_eq_some_iff.1 ho).1
 constructor
 ·intro i hi
  have h := List.all_eq_true.1 h10 i (List.mem_range.2 hi)
  simp only [Bool.or_eq_true, Nat.beq_eq, Bool.and_eq_true, decide_eq_true_eq] at h
  exact h
 ·intro i o ho e he hb
  have h := List.all_eq_true.1 h1 i (lt i o ho)
  rw [ho] at h
  dsimp only at h
  rw [Array.all_eq_true_iff_forall_mem] at h
  have h := h e he
  rw [hb] at h
  simpa using h
 ·intro i o ho d hd
  have h := List.all_eq_true.1 h2 i (lt i o ho)
  rw [ho] at h
  dsimp only at h
  rw [hd] at h
  simp only [Bool.and_eq_true] at h
  simpa using h.1
 ·intro i o ho d hd
  have h := List.all_eq_true.1 h2 i (lt i o ho)
  rw [ho] at h
  simp only [Bool.and_eq_true] at h
  have h := List.all_eq_true.1 h.2 d hd
  rw [Array.any_eq_true] at h
  obtain ⟨k, hk, h⟩ := h
  rw [Bool.and_eq_true, Bool.or_eq_true] at h
  refine ⟨o.after[k], Array.getElem_mem _, h.1, ?_⟩
  rcases h.2 with h4 | h4
  ·left
   cases h5 : ops[(o.after[k]).on]? with
   | none => rw [h5] at h4; cases h4
   | some o' => rw [h5] at h4; exact ⟨o', rfl, by simpa using h4⟩
  ·right; simpa using h4
 ·intro i j o o' d ho ho' hd hd'
  have h := List.all_eq_true.1 (List.all_eq_true.1 h3 i (lt i o ho)) j (lt j o' ho')
  rw [ho, ho'] at h
  dsimp only at h
  rw [hd, hd'] at h
  simpa using h
 ·intro m hm
  have h := List.all_eq_true.1 h4 m (List.mem_range.2 hm)
  simp only [Bool.and_eq_true, decide_eq_true_eq] at h
  exact h.1.1
 ·intro m h0 hm
  have h := List.all_eq_true.1 h4 m (List.mem_range.2 hm)
  simp only [Bool.and_eq_true, decide_eq_true_eq, Bool.or_eq_true, Nat.beq_eq] at h
  rcases h.1.2 with h | h
  ·omega
  ·exact h
 ·intro m hm d hd
  have h := List.all_eq_true.1 h4 m (List.mem_range.2 hm)
  simp only [Bool.and_eq_true] at h
  have h := List.all_eq_true.1 h.2 d hd
  simp only [Bool.or_eq_true] at h
  rcases h with (h | h) | h
  ·exact .inl (by simpa using h)
  ·exact .inr (.inl (by simpa using h))
  ·cases ho : ops[st.getD m 0]? with
   | none => rw [ho] at h; cases h
   | some o => rw [ho] at h; exact .inr (.inr ⟨o, rfl, by simpa using h⟩)
 ·intro i hi
  have h := List.all_eq_true.1 h5 i (List.mem_range.2 hi)
  simp only [Bool.or_eq_true, Nat.beq_eq] at h
  exact h
 ·intro d hd
  have h := List.all_eq_true.1 h6 d hd
  rw [Array.any_eq_true] at h
  obtain ⟨k, hk, h⟩ := h
  exact ⟨k, ops[k], by simp [hk], by simpa using h⟩
 ·simpa using h7
 ·intro d hd m hm
  have h := List.all_eq_true.1 (List.all_eq_true.1 h8 d hd) (st.getD m 0) (by simp [hm])
  obtain ⟨i, hi, h⟩ := List.any_eq_true.1 h
  rw [Bool.and_eq_true] at h
  cases ho : ops[i]? with
  | none => rw [ho] at h; cases h.1
  | some o => rw [ho] at h; exact ⟨i, o, ho, by simpa using h.1, h.2⟩
 ·intro d hd
  have h := List.all_eq_true.1 h9 d hd
  simpa using h
end
open Go.Proofs.YtacmccijnkojeaaGreat (fillL upd fillL_size fillL_get fillL_upd fillL_self filter_less none_listed put_fill)
structure Fact (Kp : World → World → Prop) where
 p : Value → World → Prop
 st : ∀ v w w', Kp w w' → p v w → p v w'
def Fact.triv : Fact Kp := ⟨fun _ _ => True, fun _ _ _ _ _ => trivial⟩
def Fact.is (x : Value) : Fact Kp := ⟨fun v _ => v = x, fun _ _ _ _ h => h⟩
def look : List (Nat × Fact Kp) → Nat → Fact Kp
 | [], _ => Fact.triv
 | (k, f) :: rest, d => bif Nat.beq k d then f else look rest d
def temps (FL : List (Nat × Fact Kp)) : List Nat := FL.map (·.1)
def factOf (FL : List (Nat × Fact Kp)) (dst : Option Nat) (v : Value) (w : World) : Prop := match dst with
 | none => True
 | some d => (look FL d).p v w
def Facts (FL : List (Nat × Fact Kp)) (u : Nat → Value) (w : World) : List Nat → Prop
 | [] => True
 | d :: ds => (look FL d).p (u d) w ∧ Facts FL u w ds
theorem facts_mk {FL : List (Nat × Fact Kp)} {u : Nat → Value} {w : World} {ds : List Nat} (h : ∀ d ∈ ds, (look FL d).p (u d) w) : Facts FL u w ds := by
 induction ds with
 | nil => trivial
 | cons d ds ih => exact ⟨h d (List.mem_cons_self ..), ih fun e he => h e (List.mem_cons_of_mem _ he)⟩
theorem facts_get {FL : List (Nat × Fact Kp)} {u : Nat → Value} {w : World} {ds : List Nat} (h : Facts FL u w ds) (d : Nat) (hd : d ∈ ds) : (look FL d).p (u d) w := by
 induction ds with
 | nil => cases hd
 | cons e ds ih =>
  rcases List.mem_cons.1 hd with rfl | hd
  ·exact h.1
  ·exact ih h.2 hd
section
variable {P : Program} {ops : Array Oper} {Q : Exit → Act → World → Prop} {FL : List (Nat × Fact Kp)} {J : Nat → List Value → World → Prop} {t0 : Array Value} {df : List Deferred} {ds : List Nat}
 {st lm ln al : List Nat} {js : List (List Nat)} {pt : List (List Nat)}
def StepOk (Rp : World → World → Prop) (al : List Nat) (P : Program) (ops : Array Oper) (Q : Exit → Act → World → Prop) (FL : List (Nat × Fact Kp)) (J : Nat → List Value → World → Prop) (js : List (List Nat)) (fr : (Nat → Value) → Array Value) (df : List Deferred) (o : Oper) (need : List Nat) (lim lo : Nat) : Prop :=
 ∀ (k : Nat) (u : Nat → Value) (w : World), k ≤ lim → lo ≤ k → J k ((js.getD k []).map u) w → Facts FL u w need → ∀ K : Act → World → Prop, Shut (∀ v w', Rp w w' → factOf FL o.dst v w' → aOk al o.dst v w w' → K ((⟨fr u, df⟩ : Act).put o.dst v) w') →
  if Region.wanted o (yielded ops (fr u)) = true then Oper.wp P o ⟨fr u, df⟩ w K Q else K ((⟨fr u, df⟩ : Act).put o.dst undef) w
def StoreOk (al : List Nat) (P : Program) (ops : Array Oper) (Q : Exit → Act → World → Prop) (FL : List (Nat × Fact Kp)) (J : Nat → List Value → World → Prop) (js : List (List Nat)) (fr : (Nat → Value) → Array Value) (df : List Deferred) (o : Oper) (need : List Nat) (k : Nat) : Prop :=
 ∀ (u : Nat → Value) (w : World), J k ((js.getD k []).map u) w → Apart al u → Facts FL u w need → ∀ K : Act → World → Prop, Shut (∀ v w', J (k + 1) ((js.getD (k + 1) []).map (upd u o.dst v)) w' → Kp w w' → factOf FL o.dst v w' → K ((⟨fr u, df⟩ : Act).put o.dst v) w') →
  if Region.wanted o (yielded ops (fr u)) = true then Oper.wp P o ⟨fr u, df⟩ w K Q else K ((⟨fr u, df⟩ : Act).put o.dst undef) w
def StepsOk (Rp : World → World → Prop) (al : List Nat) (P : Program) (ops : Array Oper) (Q : Exit → Act → World → Prop) (FL : List (Nat × Fact Kp)) (J : Nat → List Value → World → Prop) (js : List (List Nat)) (fr : (Nat → Value) → Array Value) (df : List Deferred) (pt : List (List Nat)) (st lm ln : List Nat) : List Oper → Nat → Prop
 | [], _ => True
 | o :: rest, i => (match st.idxOf? i with
   | some k => StoreOk al P ops Q FL J js fr df o (pt.getD i []) k
   | none => StepOk Rp al P ops Q FL J js fr df o (pt.getD i []) (lm.getD i st.length) (ln.getD i 0)) ∧ StepsOk Rp al P ops Q FL J js fr df pt st lm ln rest (i + 1)
theorem StepsOk.nil {fr : (Nat → Value) → Array Value} {i : Nat} : StepsOk Rp al P ops Q FL J js fr df pt st lm ln [] i := trivial
theorem sc {fr : (Nat → Value) → Array Value} {o : Oper} {rest : List Oper} {i : Nat} {need : List Nat} {lim lo : Nat} (h0 : st.idxOf? i = none) (h1 : pt.getD i [] = need) (h2 : lm.getD i st.length = lim) (h3 : ln.getD i 0 = lo)
  (h : StepOk Rp al P ops Q FL J js fr df o need lim lo) (hs : StepsOk Rp al P ops Q FL J js fr df pt st lm ln rest (i + 1)) : StepsOk Rp al P ops Q FL J js fr df pt st lm ln (o :: rest) i := ⟨by rw [h0, h1, h2, h3]; exact h, hs⟩
theorem ss {fr : (Nat → Value) → Array Value} {o : Oper} {rest : List Oper} {i k : Nat} {need : List Nat} (h0 : st.idxOf? i = some k) (h1 : pt.getD i [] = need)
  (h : StoreOk al P ops Q FL J js fr df o need k) (hs : StepsOk Rp al P ops Q FL J js fr df pt st lm ln rest (i + 1)) : StepsOk Rp al P ops Q FL J js fr df pt st lm ln (o :: rest) i := ⟨by rw [h0, h1]; exact h, hs⟩
theorem steps_at {fr : (Nat → Value) → Array Value} : ∀ (l : List Oper) (i0 : Nat), StepsOk Rp al P ops Q FL J js fr df pt st lm ln l i0 → ∀ i o, l[i]? = some o → (match st.idxOf? (i0 + i) with
      | some k => StoreOk al P ops Q FL J js fr df o (pt.getD (i0 + i) []) k
      | none => StepOk Rp al P ops Q FL J js fr df o (pt.getD (i0 + i) []) (lm.getD (i0 + i) st.length) (ln.getD (i0 + i) 0)) := by
  intro l
  induction l with
  | nil => intro i0 _ i o h; simp at h
  | cons x l ih =>
    intro i0 hs i o h
    cases i with
    | zero => simp at h; subst h; exact hs.1
    | succ i =>
      have := ih (i0 + 1) hs.2 i o (by simpa using h)
      rwa [show i0 + 1 + i = i0 + (i + 1) by omega] at this
structure Inv (al : List Nat) (ops : Array Oper) (FL : List (Nat × Fact Kp)) (J : Nat → List Value → World → Prop) (js : List (List Nat)) (t0 : Array Value) (df : List Deferred) (ds : List Nat) (pt : List (List Nat)) (st : List Nat) (listed : Array Bool) (a : Act) (w : World) : Prop where
 fr : ∃ k u, a = ⟨fillL u ds t0, df⟩ ∧ (∀ d, Written ops listed d → (look FL d).p (u d) w) ∧ J k ((js.getD k []).map u) w ∧ k ≤ st.length ∧ (∀ m, m < k → listed.getD (st.getD m 0) false = true) ∧
  (∀ m, k ≤ m → m < st.length → listed.getD (st.getD m 0) false = false) ∧ (∀ d ∈ js.getD k [], Written ops listed d) ∧ (∀ d ∈ al, Written ops listed d → ∃ g, u d = .pointer (some ⟨g, 0, none⟩) ∧ g < w.heap.size) ∧
  (∀ d ∈ al, ∀ d' ∈ al, d ≠ d' → Written ops listed d → Written ops listed d' → u d ≠ u d')
 cl : ∀ i, listed.getD i false = true → ∀ d ∈ pt.getD i [], Written ops listed d
 cs : ∀ j oj, ops[j]? = some oj → listed.getD j false = true → ∀ e ∈ oj.after, Region.binds .any e = true → listed.getD e.on false = true
 sz : listed.size = ops.size
theorem inv_step (hc : Chk al ops pt ds st js lm ln) (hsz : ∀ w w' : World, Kp w w' → w.heap.size ≤ w'.heap.size) (hrk : ∀ w w' : World, Rp w w' → Kp w w') (hst : ∀ k l w w', Rp w w' → J k l w → J k l w') (hs : StepsOk Rp al P ops Q FL J js (fun u => fillL u ds t0) df pt st lm ln ops.toList 0) {listed : Array Bool} {a : Act} {w : World}
    (hI : Inv al ops FL J js t0 df ds pt st listed a w) {i : Nat} (hi : i ∈ Region.ready .any ops listed) :
    wpOp P ops Q i (Inv al ops FL J js t0 df ds pt st (listed.setIfInBounds i true)) a w := by
  obtain ⟨h0, o, ho, hall⟩ := mem_ready.1 hi
  have hlt : i < ops.size := (Array.getElem?_eq_some_iff.1 ho).1
  have hil : i < listed.size := by rw [hI.sz]; exact hlt
  have hun : listed.getD i false = false := by rw [← getD_flag hil]; exact h0
  obtain ⟨k, u, rfl, hfac, hJ, hk, hk1, hk2, hk3, hk4, hk5⟩ := hI.fr
  have hneed : ∀ d ∈ pt.getD i [], Written ops listed d := by
    intro d hd
    obtain ⟨e, he, hb, h1⟩ := hc.need i o ho d hd
    have h2 := hall e he hb
    rcases h1 with ⟨o', h3, h4⟩ | h3
    · exact ⟨e.on, o', h2, h3, h4⟩
    · exact hI.cl e.on h2 d h3
  have hstep := steps_at _ _ hs i o (by simpa using ho)
  rw [Nat.zero_add] at hstep
  have hcs : ∀ j oj, ops[j]? = some oj → (listed.setIfInBounds i true).getD j false = true → ∀ e ∈ oj.after, Region.binds .any e = true → (listed.setIfInBounds i true).getD e.on false = true := by
    intro j oj hj hl e he hb
    by_cases hij : i = j
    · subst hij
      have : oj = o := Option.some.inj (hj.symm.trans ho)
      subst this
      exact getD_set_true (hall e he hb)
    · rw [getD_set_ne false hij] at hl
      exact getD_set_true (hI.cs j oj hj hl e he hb)
  have hcl : ∀ j, (listed.setIfInBounds i true).getD j false = true → ∀ d ∈ pt.getD j [], Written ops (listed.setIfInBounds i true) d := by
    intro j hj d hd
    by_cases hij : i = j
    · subst hij; exact (hneed d hd).more
    · rw [getD_set_ne false hij] at hj
      exact (hI.cl j hj d hd).more
  have hwait : ∀ m, m < k → ∀ j, Region.waitsFor .any ops (st.getD m 0) j = true → listed.getD j false = true := by
    intro m hm j hw
    obtain ⟨oj, hoj, e, he, hb, hon⟩ := Region.waitsFor_spec hw
    rw [← hon]
    exact hI.cs _ oj hoj (hk1 m hm) e he hb
  have hwait2 : ∀ m, m < k → ∀ j, waits2 ops (st.getD m 0) j = true → listed.getD j false = true := by
    intro m hm j hw
    unfold waits2 at hw
    rw [Bool.or_eq_true] at hw
    rcases hw with hw | hw
    · exact hwait m hm j hw
    · obtain ⟨x, -, hx⟩ := List.any_eq_true.1 hw
      rw [Bool.and_eq_true] at hx
      obtain ⟨oj, hoj, e, he, hb, hon⟩ := Region.waitsFor_spec hx.2
      rw [← hon]
      exact hI.cs _ oj hoj (hwait m hm x hx.1) e he hb
  cases hsi : st.idxOf? i with
  | none =>
    rw [hsi] at hstep
    have hns : ∀ m, m < st.length → st.getD m 0 ≠ i := by
      intro m hm e
      have h1 : i ∈ st := by rw [← e]; simp [hm]
      have h2 := List.idxOf?_eq_none_iff.1 hsi
      exact h2 h1
    have hlim : k ≤ lm.getD i st.length := by
      rcases hc.lim i hlt with h1 | h1
      · omega
      · rcases Nat.lt_or_ge (lm.getD i st.length) k with h2 | h2
        · exfalso
          have h3 := hwait2 _ h2 i (by
            have e : st.getD (lm.getD i st.length) ops.size = st.getD (lm.getD i st.length) 0 := by
              have : lm.getD i st.length < st.length := by omega
              generalize lm.getD i st.length = z at *
              simp [this]
            rw [← e]; exact h1)
          rw [hun] at h3; cases h3
        · exact h2
    have hlow : ln.getD i 0 ≤ k := by
      rcases hc.low i hlt with h1 | ⟨h0, h1⟩
      · omega
      · rcases Nat.lt_or_ge k (ln.getD i 0) with h2 | h2
        · exfalso
          have h3 : listed.getD (st.getD (ln.getD i 0 - 1) 0) false = true := by
            unfold waits2 at h1
            rw [Bool.or_eq_true] at h1
            rcases h1 with h1 | h1
            · obtain ⟨oj, hoj, e, he, hb, hon⟩ := Region.waitsFor_spec h1
              have : oj = o := Option.some.inj (hoj.symm.trans ho)
              subst this
              rw [← hon]; exact hall e he hb
            · obtain ⟨x, -, hx⟩ := List.any_eq_true.1 h1
              rw [Bool.and_eq_true] at hx
              obtain ⟨oj, hoj, e, he, hb, hon⟩ := Region.waitsFor_spec hx.1
              have : oj = o := Option.some.inj (hoj.symm.trans ho)
              subst this
              have h4 := hall e he hb
              rw [hon] at h4
              obtain ⟨oj2, hoj2, e2, he2, hb2, hon2⟩ := Region.waitsFor_spec hx.2
              rw [← hon2]
              exact hI.cs _ oj2 hoj2 h4 e2 he2 hb2
          rw [hk2 (ln.getD i 0 - 1) (by omega) (by omega)] at h3
          cases h3
        · exact h2
    refine wpOp_step ho (fun K' hK => hstep k u w hlim hlow hJ (facts_mk fun d hd => hfac d (hneed d hd)) K' ?_)
    intro v w' hb hf hao
    have hwi : ∀ d, Written ops (listed.setIfInBounds i true) d → o.dst = some d ∨ Written ops listed d := by
      rintro d ⟨j, o', h1, h2, h3⟩
      by_cases hij : i = j
      · subst hij
        rw [ho] at h2
        injection h2 with h2
        subst h2
        exact .inl h3
      · rw [getD_set_ne false hij] at h1
        exact .inr ⟨j, o', h1, h2, h3⟩
    have hnw : ∀ d, o.dst = some d → ¬ Written ops listed d := by
      rintro d hd ⟨j, o', h1, h2, h3⟩
      have := hc.once i j o o' d ho h2 hd h3
      subst this
      rw [hun] at h1; cases h1
    have hne : ∀ d, o.dst ≠ some d → upd u o.dst v d = u d := by
      intro d hd
      cases h : o.dst with
      | none => rfl
      | some d' => rw [h] at hd; simp only [upd]; rw [if_neg (fun h => hd (by rw [h]))]
    have hal : ∀ d ∈ al, o.dst = some d → v = .pointer (some ⟨w.heap.size, 0, none⟩) ∧ w.heap.size < w'.heap.size := by
      intro d hd h
      unfold aOk at hao
      rw [h] at hao
      dsimp only at hao
      rw [show al.contains d = true by simpa using hd] at hao
      exact hao
    refine hK _ _ ⟨⟨k, upd u o.dst v, put_fill u o v (hc.dst i o ho), ?_, ?_, hk, fun m hm => getD_set_true (hk1 m hm), fun m hm hm' => ?_, fun d hd => (hk3 d hd).more, fun d hd hw => ?_, fun d hd d' hd' hdd hw hw' => ?_⟩, hcl, hcs, by simpa using hI.sz⟩
    · rintro d ⟨j, o', h1, h2, h3⟩
      by_cases hd : o.dst = some d
      · rw [hd] at hf ⊢
        have e : upd u (some d) v d = v := by simp [upd]
        rw [e]; exact hf
      · have hw : Written ops listed d := by
          by_cases hij : i = j
          · subst hij
            rw [ho] at h2
            injection h2 with h2
            subst h2
            exact absurd h3 hd
          · rw [getD_set_ne false hij] at h1
            exact ⟨j, o', h1, h2, h3⟩
        have e : upd u o.dst v d = u d := by
          cases h : o.dst with
          | none => rfl
          | some d' => rw [h] at hd; simp only [upd]; rw [if_neg (fun h => hd (by rw [h]))]
        rw [e]
        exact (look FL d).st _ _ _ (hrk _ _ hb) (hfac d hw)
    · have e : (js.getD k []).map (upd u o.dst v) = (js.getD k []).map u := by
        apply List.map_congr_left
        intro d hd
        cases h : o.dst with
        | none => rfl
        | some d' =>
          simp only [upd]
          rw [if_neg]
          rintro rfl
          obtain ⟨j, o', h1, h2, h3⟩ := hk3 d hd
          have := hc.once i j o o' d ho h2 h h3
          subst this
          rw [hun] at h1; cases h1
      rw [e]
      exact hst _ _ _ _ hb hJ
    · rw [getD_set_ne false (Ne.symm (hns m hm'))]; exact hk2 m hm hm'
    · by_cases h : o.dst = some d
      · obtain ⟨h1, h2⟩ := hal d hd h
        exact ⟨w.heap.size, by rw [h]; simp [upd, h1], h2⟩
      · rcases hwi d hw with h1 | h1
        · exact absurd h1 h
        · obtain ⟨g, h2, h3⟩ := hk4 d hd h1
          exact ⟨g, by rw [hne d h]; exact h2, Nat.lt_of_lt_of_le h3 (hsz _ _ (hrk _ _ hb))⟩
    · by_cases h : o.dst = some d
      · have h' : o.dst ≠ some d' := fun h2 => hdd (by rw [h] at h2; injection h2)
        rcases hwi d' hw' with h1 | h1
        · exact absurd h1 h'
        · obtain ⟨g, h2, h3⟩ := hk4 d' hd' h1
          rw [hne d' h', h2, h]
          simp only [upd, if_pos]
          rw [(hal d hd h).1]
          intro he
          simp at he <;> omega
      · rcases hwi d hw with h1 | h1
        · exact absurd h1 h
        · by_cases h' : o.dst = some d'
          · obtain ⟨g, h2, h3⟩ := hk4 d hd h1
            rw [hne d h, h2, h']
            simp only [upd, if_pos]
            rw [(hal d' hd' h').1]
            intro he
            simp at he <;> omega
          · rcases hwi d' hw' with h2 | h2
            · exact absurd h2 h'
            · rw [hne d h, hne d' h']; exact hk5 d hd d' hd' hdd h1 h2
  | some m =>
    rw [hsi] at hstep
    obtain ⟨hm, hmi, -⟩ := List.idxOf?_eq_some_iff.1 hsi
    have hmi' : st.getD m 0 = i := by simp [hm]; exact hmi
    have hmk : m = k := by
      rcases Nat.lt_trichotomy m k with h1 | h1 | h1
      · have := hk1 m h1; rw [hmi', hun] at this; cases this
      · exact h1
      · exfalso
        have h2 := hc.schain m (by omega) hm
        rw [hmi'] at h2
        obtain ⟨oj, hoj, e, he, hb, hon⟩ := Region.waitsFor_spec h2
        have : oj = o := Option.some.inj (hoj.symm.trans ho)
        subst this
        have h3 := hall e he hb
        rw [hon, hk2 (m - 1) (by omega) (by omega)] at h3
        cases h3
    subst hmk
    have hwal : ∀ d ∈ al, Written ops listed d := by
      intro d hd
      obtain ⟨j, o', h1, h2, h3⟩ := hc.alw d hd m hm
      rw [hmi'] at h3
      refine ⟨j, o', ?_, h1, h2⟩
      unfold waits2 at h3
      rw [Bool.or_eq_true] at h3
      rcases h3 with h3 | h3
      · obtain ⟨oj, hoj, e, he, hb, hon⟩ := Region.waitsFor_spec h3
        have : oj = o := Option.some.inj (hoj.symm.trans ho)
        subst this
        rw [← hon]; exact hall e he hb
      · obtain ⟨x, -, hx⟩ := List.any_eq_true.1 h3
        rw [Bool.and_eq_true] at hx
        obtain ⟨oj, hoj, e, he, hb, hon⟩ := Region.waitsFor_spec hx.1
        have : oj = o := Option.some.inj (hoj.symm.trans ho)
        subst this
        have h4 := hall e he hb
        rw [hon] at h4
        obtain ⟨oj2, hoj2, e2, he2, hb2, hon2⟩ := Region.waitsFor_spec hx.2
        rw [← hon2]
        exact hI.cs _ oj2 hoj2 h4 e2 he2 hb2
    refine wpOp_step ho (fun K' hK => hstep u w hJ (fun d hd d' hd' hdd => hk5 d hd d' hd' hdd (hwal d hd) (hwal d' hd')) (facts_mk fun d hd => hfac d (hneed d hd)) K' ?_)
    intro v w' hJ' hb hf
    have hnw : ∀ d, o.dst = some d → ¬ Written ops listed d := by
      rintro d hd ⟨j, o', h1, h2, h3⟩
      have := hc.once i j o o' d ho h2 hd h3
      subst this
      rw [hun] at h1; cases h1
    have hne : ∀ d, o.dst ≠ some d → upd u o.dst v d = u d := by
      intro d hd
      cases h : o.dst with
      | none => rfl
      | some d' => rw [h] at hd; simp only [upd]; rw [if_neg (fun h => hd (by rw [h]))]
    have hnl : ∀ d ∈ al, o.dst ≠ some d := fun d hd h => hnw d h (hwal d hd)
    refine hK _ _ ⟨⟨m + 1, upd u o.dst v, put_fill u o v (hc.dst i o ho), ?_, hJ', hm, fun j hj => ?_, fun j hj hj' => ?_, fun d hd => ?_, fun d hd hw => ?_, fun d hd d' hd' hdd hw hw' => by rw [hne d (hnl d hd), hne d' (hnl d' hd')]; exact hk5 d hd d' hd' hdd (hwal d hd) (hwal d' hd')⟩, hcl, hcs, by simpa using hI.sz⟩
    · rintro d ⟨j, o', h1, h2, h3⟩
      by_cases hd : o.dst = some d
      · rw [hd] at hf ⊢
        have e : upd u (some d) v d = v := by simp [upd]
        rw [e]; exact hf
      · have hw : Written ops listed d := by
          by_cases hij : i = j
          · subst hij
            rw [ho] at h2
            injection h2 with h2
            subst h2
            exact absurd h3 hd
          · rw [getD_set_ne false hij] at h1
            exact ⟨j, o', h1, h2, h3⟩
        rw [hne d hd]
        exact (look FL d).st _ _ _ hb (hfac d hw)
    · by_cases h1 : j = m
      · subst h1; rw [hmi']; simp [hil]
      · exact getD_set_true (hk1 j (by omega))
    · have h1 := hk2 j (by omega) hj'
      by_cases h2 : st.getD j 0 = i
      · exfalso
        have h3 : ∀ n, m ≤ n → n < st.length → i ≤ st.getD n 0 ∧ (m < n → i < st.getD n 0) := by
          intro n
          induction n with
          | zero => intro h4 h5; exact ⟨by have : m = 0 := by omega
                                           subst this; rw [hmi']; exact Nat.le_refl _, fun h => by omega⟩
          | succ n ih =>
            intro h4 h5
            by_cases h6 : m = n + 1
            · subst h6; exact ⟨by rw [hmi']; exact Nat.le_refl _, fun h => by omega⟩
            · have h7 := ih (by omega) (by omega)
              have h8 := hc.schain (n + 1) (by omega) h5
              obtain ⟨oj, hoj, e, he, hb', hon⟩ := Region.waitsFor_spec h8
              have h9 := hc.edge _ oj hoj e he hb'
              rw [hon, Nat.add_sub_cancel] at h9
              exact ⟨by omega, fun _ => by omega⟩
        have := (h3 j (by omega) hj').2 (by omega)
        omega
      · rw [getD_set_ne false (Ne.symm h2)]; exact h1
    · rcases hc.sjs m hm d hd with h1 | h1
      · rw [hmi'] at h1; exact (hneed d h1).more
      · rcases h1 with h1 | ⟨o2, h1, h2⟩
        · exact (hk3 d h1).more
        · rw [hmi'] at h1
          exact ⟨i, o2, by simp [hil], h1, h2⟩
    · obtain ⟨g, h1, h2⟩ := hk4 d hd (hwal d hd)
      exact ⟨g, by rw [hne d (hnl d hd)]; exact h1, Nat.lt_of_lt_of_le h2 (hsz _ _ hb)⟩
theorem ready_nil_all (hc : Chk al ops pt ds st js lm ln) {listed : Array Bool} (hsz : listed.size = ops.size) (hr : Region.ready .any ops listed = []) : ∀ n i, i < n → i < ops.size → listed.getD i false = true := by
 intro n
 induction n with
 | zero => intro i h; omega
 | succ n ih =>
  intro i hin hi
  have hil : i < listed.size := by omega
  cases hv : listed.getD i false with
  | true => rfl
  | false =>
   exfalso
   have ho : ops[i]? = some ops[i] := by simp [hi]
   have : i ∈ Region.ready .any ops listed := by
    rw [mem_ready]
    refine ⟨by simp [hil] at hv ⊢; exact hv, _, ho, fun e he hb => ?_⟩
    have h1 := hc.edge i _ ho e he hb
    exact ih e.on (by omega) (by omega)
   rw [hr] at this
   cases this
theorem wpAny_inv (hc : Chk al ops pt ds st js lm ln) (hsz : ∀ w w' : World, Kp w w' → w.heap.size ≤ w'.heap.size) (hrk : ∀ w w' : World, Rp w w' → Kp w w') (hst : ∀ k l w w', Rp w w' → J k l w → J k l w') (hs : StepsOk Rp al P ops Q FL J js (fun u => fillL u ds t0) df pt st lm ln ops.toList 0)
  (hend : ∀ u w, J st.length ((js.getD st.length []).map u) w → Facts FL u w ds → Q .normal ⟨fillL u ds t0, df⟩ w) :
  ∀ (fuel : Nat) (listed : Array Bool) (a : Act) (w : World), ((List.range ops.size).filter fun j => !listed.getD j true).length ≤ fuel → Inv al ops FL J js t0 df ds pt st listed a w → wpAny P .any ops Q fuel listed a w := by
 have hfin : ∀ (listed : Array Bool) (a : Act) (w : World), Inv al ops FL J js t0 df ds pt st listed a w → Region.ready .any ops listed = [] → Q .normal a w := by
  intro listed a w hI hr
  obtain ⟨k, u, rfl, hfac, hJ, hk, hk1, hk2, hk3, hk4, hk5⟩ := hI.fr
  have hall := Go.Proofs.YtacmccijnkojeaaGreat.AK.ready_nil_all hc hI.sz hr
  have hkl : k = st.length := by
   rcases Nat.lt_or_ge k st.length with h | h
   ·have h1 := hk2 k (Nat.le_refl _) h
    rw [hall (st.getD k 0 + 1) _ (by omega) (hc.slt k h)] at h1
    cases h1
   ·omega
  subst hkl
  refine hend u w hJ (facts_mk fun d hd => hfac d ?_)
  obtain ⟨i, o, h1, h2⟩ := hc.wr d hd
  exact ⟨i, o, hall (i + 1) i (by omega) (Array.getElem?_eq_some_iff.1 h1).1, h1, h2⟩
 intro fuel
 induction fuel with
 | zero =>
  intro listed a w hcnt hI
  have hr : Region.ready .any ops listed = [] := by
   rw [List.eq_nil_iff_forall_not_mem]
   intro j hj
   obtain ⟨h0, o, ho, -⟩ := mem_ready.1 hj
   have hlt : j < ops.size := (Array.getElem?_eq_some_iff.1 ho).1
   have hm : j ∈ (List.range ops.size).filter fun j => !listed.getD j true := by
    rw [List.mem_filter]
    exact ⟨List.mem_range.2 hlt, by rw [h0]; rfl⟩
   have := List.length_pos_of_mem hm
   omega
  exact ⟨hr, hfin _ _ _ hI hr⟩
 | succ fuel ih =>
  intro listed a w hcnt hI
  refine ⟨fun hr => hfin _ _ _ hI hr, fun i hi => ?_⟩
  obtain ⟨h0, o, ho, -⟩ := mem_ready.1 hi
  have hlt : i < ops.size := (Array.getElem?_eq_some_iff.1 ho).1
  refine wpOp_mono (fun a' w' hI' => ih _ a' w' ?_ hI') (inv_step hc hsz hrk hst hs hI hi)
  have := filter_less (p := fun j => !listed.getD j true) (q := fun j => !(listed.setIfInBounds i true).getD j true) (i := i) (by simp only [h0]; rfl) (by
   have hil : i < listed.size := by rw [hI.sz]; exact hlt
   simp [hil]) (fun j hj => by
   by_cases hij : i = j
   ·subst hij
    exfalso
    have hil : i < listed.size := by rw [hI.sz]; exact hlt
    simp [hil] at hj
   ·rw [getD_set_ne true hij] at hj; exact hj) (List.range ops.size) (List.mem_range.2 hlt)
  omega
theorem region_facts {id : Nat} {w : World} {opl : List Oper} (FL : List (Nat × Fact Kp)) (J : Nat → List Value → World → Prop) (pt : List (List Nat)) (st : List Nat) (js : List (List Nat)) (lm ln : List Nat) (al : List Nat) {fr : (Nat → Value) → Array Value} (hfr : ∀ u, fillL u (temps FL) t0 = fr u)
  (hm : P.follows .mixedOrders = true) (hchk : chk al opl.toArray pt (temps FL) st js lm ln = true) (hsz : ∀ w w' : World, Kp w w' → w.heap.size ≤ w'.heap.size) (hrk : ∀ w w' : World, Rp w w' → Kp w w') (hst : ∀ k l w w', Rp w w' → J k l w → J k l w') (hJ : J 0 [] w.drew)
  (hs : StepsOk Rp al P opl.toArray Q FL J js fr df pt st lm ln opl 0)
  (hend : ∀ u w, J st.length ((js.getD st.length []).map u) w → Facts FL u w (temps FL) → Q .normal ⟨fr u, df⟩ w) : (Code.region id opl.toArray true).wp P Q ⟨t0, df⟩ w := by
 obtain rfl : (fun u => fillL u (temps FL) t0) = fr := funext hfr
 have hc := chk_spec hchk
 refine wp_region_any hm (wpAny_inv (t0 := t0) hc hsz hrk hst hs hend opl.toArray.size _ _ _ ?_ ⟨⟨0, fun d => t0.getD d undef, by rw [fillL_self], ?_, by rw [hc.js0]; exact hJ, Nat.zero_le _, fun m h => by omega, fun m _ _ => none_listed _ _, fun d hd => (by rw [hc.js0] at hd; cases hd), fun d _ hw => (by obtain ⟨j, o', h1, _, _⟩ := hw; rw [none_listed] at h1; cases h1), fun d _ d' _ _ hw => by obtain ⟨j, o', h1, _, _⟩ := hw; rw [none_listed] at h1; cases h1⟩, ?_, ?_, by simp⟩)
 ·exact Nat.le_trans (List.length_filter_le _ _) (by simp)
 ·rintro d ⟨j, o', h1, -, -⟩
  rw [none_listed] at h1; cases h1
 ·intro i hi
  rw [none_listed] at hi; cases hi
 ·intro j oj _ hl
  rw [none_listed] at hl; cases hl
end
end Go.Proofs.YtacmccijnkojeaaGreat.AK
namespace Go.Proofs.YtacmccijnkojeaaGreat
open Go.RowKit
abbrev Below0 (w w' : World) : Prop := Below w.heap.size w w'
abbrev SizeUp (w w' : World) : Prop := w.heap.size ≤ w'.heap.size
structure Only (S : Nat → Prop) (w w' : World) : Prop where
 os : w'.os = w.os
 tape : w'.tape = w.tape
 output : w'.output = w.output
 size : w.heap.size ≤ w'.heap.size
 blk : ∀ k, k < w.heap.size → ¬ S k → w'.heap[k]? = w.heap[k]?
section
variable {S T : Nat → Prop} {w w' w2 : World} {B b : Nat}
theorem Only.refl (w : World) : Only S w w := ⟨rfl, rfl, rfl, Nat.le_refl _, fun _ _ _ => rfl⟩
theorem Only.trans (h : Only S w w') (k : Only S w' w2) : Only S w w2 :=
 ⟨k.os.trans h.os, k.tape.trans h.tape, k.output.trans h.output, Nat.le_trans h.size k.size, fun i hi hs => (k.blk i (Nat.lt_of_lt_of_le hi h.size) hs).trans (h.blk i hi hs)⟩
theorem Only.of (h : Below w.heap.size w w') : Only S w w' := ⟨h.os, h.tape, h.output, h.size, fun k hk _ => h.block k hk⟩
theorem Only.drew (h : Only S w w') : Only S w w'.drew := ⟨h.os, h.tape, h.output, h.size, h.blk⟩
theorem Only.wide (h : Only S w w') (hST : ∀ k, k < w.heap.size → S k → T k) : Only T w w' := ⟨h.os, h.tape, h.output, h.size, fun k hk hs => h.blk k hk fun h2 => hs (hST k hk h2)⟩
theorem Only.setCell (w : World) {a : Addr} (ha : S a.block) (v : Value) : Only S w (w.setCell a v) :=
 ⟨rfl, rfl, rfl, by simp [World.setCell], fun k _ hs => Below.heap_setCell _ _ _ _ (fun e => hs (e ▸ ha))⟩
theorem Only.setCells {b : Nat} (hb : S b) : ∀ (vs : List Value) (o : Nat) (w : World), Only S w (w.setCells b o vs)
 | [], _, w => Only.refl w
 | v :: r, o, w => by
  rw [World.setCells]
  exact (Only.setCell w (a := ⟨b, o, none⟩) hb v).trans (Only.setCells hb r (o + 1) _)
theorem Only.grown {row : Option Nat} (h : w.grownBy w' row) (hr : ∀ k, row = some k → S k) : Only S w w' :=
 ⟨h.os, h.tape, h.output, h.size, fun k hk hs => h.block k hk (fun e => hs (hr k e.symm))⟩
theorem Only.below (h : Only S w w') (hS : ∀ k, S k → B ≤ k) (hB : B ≤ w.heap.size) : Below B w w' :=
 ⟨h.os, h.tape, h.output, h.size, fun k hk => h.blk k (by omega) (fun hs => by have := hS k hs; omega)⟩
theorem Only.cell (h : Only S w w') (hb : b < w.heap.size) (hs : ¬ S b) (o : Nat) : w'.cell? ⟨b, o, Option.none⟩ = w.cell? ⟨b, o, Option.none⟩ := World.cell?_of_block (w := w) (h.blk b hb hs)
end
structure Wh (t : TypeId) (w : World) (b : Nat) (cs : List Value) : Prop where
 blk : w.heap[b]? = some (.cells cs.toArray t (0, 0))
section
variable {t : TypeId} {w w' : World} {b : Nat} {cs : List Value}
theorem Wh.lt (h : Wh t w b cs) : b < w.heap.size := by
 rcases Nat.lt_or_ge b w.heap.size with hlt | hge
 ·exact hlt
 ·have := h.blk; rw [Array.getElem?_eq_none hge] at this; cases this
theorem Wh.cell (h : Wh t w b cs) (i : Nat) : w.cell? ⟨b, i, none⟩ = cs[i]? := by simp [World.cell?, h.blk]
theorem Wh.at (h : Wh t w b cs) (i : Nat) (v : Value) (hv : cs[i]? = some v) : w.cell? ⟨b, i, none⟩ = some v := (h.cell i).trans hv
theorem Wh.frozen (h : Wh t w b cs) (i : Nat) : w.frozen? ⟨b, i, none⟩ = false := by simp [World.frozen?, h.blk]
theorem Wh.rg (h : Wh t w b cs) : Rg w b cs := ⟨fun j v hj => h.at j v hj, h.lt⟩
theorem Wh.range (h : Wh t w b cs) : w.rangeAt b 0 cs := fun j v hv => by rw [Nat.zero_add]; exact h.at j v hv
theorem Wh.there (h : Wh t w b cs) {o n : Nat} (hn : o + n ≤ cs.length) : w.there b o n := fun j hj => by
 constructor
 ·rw [h.cell, List.getElem?_eq_getElem (by omega)]; rfl
 ·exact h.frozen _
theorem Wh.same (h : Wh t w b cs) (hk : w'.heap[b]? = w.heap[b]?) : Wh t w' b cs := ⟨hk.trans h.blk⟩
theorem Wh.up (h : Wh t w b cs) (hb : Below w.heap.size w w') : Wh t w' b cs := h.same (hb.block b h.lt)
theorem Wh.only {S : Nat → Prop} (h : Wh t w b cs) (hb : Only S w w') (hs : ¬ S b) : Wh t w' b cs := h.same (hb.blk b h.lt hs)
theorem Wh.new (w : World) (t : TypeId) (cs : List Value) : Wh t (w.alloc (.cells cs.toArray t)) w.heap.size cs := ⟨heap_alloc_new w _⟩
theorem Wh.set (h : Wh t w b cs) (i : Nat) (v : Value) : Wh t (w.setCell ⟨b, i, none⟩ v) b (cs.set i v) := by
 refine ⟨?_⟩
 simp [World.setCell, Array.getElem?_modify, h.blk]
theorem Wh.sets : ∀ (vs : List Value) {w : World} {xs ys zs : List Value}, Wh t w b (xs ++ ys ++ zs) → vs.length = ys.length → Wh t (w.setCells b xs.length vs) b (xs ++ vs ++ zs)
 | [], w, xs, ys, zs, h, hl => by
  obtain rfl : ys = [] := List.eq_nil_of_length_eq_zero hl.symm
  exact h
 | v :: vs, w, xs, [], zs, h, hl => by simp at hl
 | v :: vs, w, xs, y :: ys, zs, h, hl => by
  rw [World.setCells]
  have h1 := h.set xs.length v
  have e1 : (xs ++ (y :: ys) ++ zs).set xs.length v = (xs ++ [v]) ++ ys ++ zs := by simp
  rw [e1] at h1
  have h2 := Wh.sets vs h1 (by simpa using hl)
  have e2 : (xs ++ [v]).length = xs.length + 1 := by simp
  rw [e2] at h2
  simpa using h2
theorem Wh.put (h : Wh t w b cs) (vs : List Value) (hl : vs.length = cs.length) : Wh t (w.setCells b 0 vs) b vs := by
 have h1 := Wh.sets (xs := []) (ys := cs) (zs := []) vs (by simpa using h) hl
 simpa using h1
end
theorem wp_build_is {P : Program} {o : Oper} {a : Act} {w : World} {K : Act → World → Prop} {Q : Exit → Act → World → Prop} (ty : TypeId) (ps : Array (Nat × Operand)) (hop : o.op = .build ty ps) (L : List (Nat × Value)) (hL : (ps.toList.map fun p => (p.1, a.eval p.2)) = L) (V : Value)
  (hl : (Instr.build ty L.toArray).run P w = .ok V w) (h : K (a.put o.dst V) w) : o.wp P a w K Q := by
 have he : (ps.map fun p => (p.1, a.eval p.2)) = L.toArray := by rw [← hL]; exact Array.ext' (by rw [Array.toList_map])
 have hl2 : (Instr.build ty (ps.map fun x => match x with | (i, x) => (i, a.eval x))).run P w = .ok V w := by
  rw [← he] at hl; exact hl
 unfold Oper.wp execOp
 simp only [hop, Sem.run_bind, hl2, Sem.run_pure, Result.andThen_ok]
 exact h
theorem wpList_store_wh {P : Program} {ops : Array Oper} {rest : List Oper} {o : Oper} {a : Act} {w : World} {Q : Exit → Act → World → Prop} (hg : o.guard = none) (ty : TypeId) (x y : Operand) (hop : o.op = .store ty x y)
  (b : Nat) (hx : a.eval x = .pointer (some ⟨b, 0, none⟩)) (t : TypeId) (cs vs : List Value) (hy : a.eval y = .agg vs.toArray) (hw : Wh t w b cs) (hl : vs.length = cs.length)
  (hi : (P.info? ty).map (·.size) = some vs.toArray.size) (h1 : vs.toArray.all (·.oneCell') = true)
  (h : ∀ W, Hid (Wh t W b vs) → Hid (Only (fun k => k = b) w W) → W.heap.size = w.heap.size → wpList P ops Q rest (a.put o.dst undef) W) : wpList P ops Q (o :: rest) a w :=
 wpList_store_mid hg ty x y hop b 0 vs.toArray hx hy (hw.there (by simp [hl])) hi h1 (h _ (Lib.hid (hw.put vs hl)) (Lib.hid (Only.setCells (S := fun k => k = b) rfl vs 0 w)) (by
  have : ∀ (vs : List Value) (o : Nat) (w : World), (w.setCells b o vs).heap.size = w.heap.size := by
   intro vs
   induction vs with
   | nil => intro o w; rfl
   | cons v r ih => intro o w; rw [World.setCells, ih]; exact World.size_setCell _ _ _
  exact this _ _ _))
theorem only_new {w W : World} {o : Obj} (h : Only (fun k => k = w.heap.size) (w.alloc o) W) : Below w.heap.size w W :=
 (below_alloc_new o).trans (h.below (B := w.heap.size) (fun k hk => Nat.le_of_eq hk.symm) (by simp))
open Go.RowKit
theorem wpList_index_is {P : Program} {w : World} {ops : Array Oper} {rest : List Oper} {o : Oper} {a : Act} {Q : Exit → Act → World → Prop} (hg : o.guard = none) (ty : TypeId) (x y : Operand) (hop : o.op = .index ty x y) (p q : Value) (hx : a.eval x = p) (hy : a.eval y = q) (V : Value)
  (hl : (Instr.index ty p q).run P w = .ok V w) (h : wpList P ops Q rest (a.put o.dst V) w) : wpList P ops Q (o :: rest) a w := by
 refine wpList_plain hg fun K hK => ?_
 unfold Oper.wp execOp
 simp only [hop, hx, hy, Sem.run_bind, hl, Sem.run_pure, Result.andThen_ok]
 exact hK _ _ h
abbrev rowV (g : Grp) (i : Nat) : Value := .agg #[.string (rlN i), .int .i64 (g.R.getD i 0), .int .i64 (rlK i), .int .i64 (rlB i)]
set_option maxRecDepth 20000 in
theorem rol_index (g : Grp) (i : Nat) (hi : i < 15) (W : World) : (Instr.index 125 (.agg (rpC g)) (.int .i64 (i : Int))).run Tryz.prog W = .ok (rowV g i) W := by
 rcases (show i = 0 ∨ i = 1 ∨ i = 2 ∨ i = 3 ∨ i = 4 ∨ i = 5 ∨ i = 6 ∨ i = 7 ∨ i = 8 ∨ i = 9 ∨ i = 10 ∨ i = 11 ∨ i = 12 ∨ i = 13 ∨ i = 14 from by omega) with rfl | rfl | rfl | rfl | rfl | rfl | rfl | rfl | rfl | rfl | rfl | rfl | rfl | rfl | rfl
 all_goals kernel_rfl
def roN (R : List Int) (c : Int) : ByteArray := if c ∈ R then rlN (R.idxOf c) else ⟨#[]⟩
theorem ro_at {R : List Int} {c : Int} {k : Nat} (hk : k < R.length) (h0 : ∀ j, j < k → R.getD j 0 ≠ c) (h : R.getD k 0 = c) : roN R c = rlN k ∧ decide (c ∈ R) = true := by
 have hm : c ∈ R := by rw [← h]; exact getD_mem_acc hk
 have hx : R.idxOf c = k := by
  show R.findIdx (· == c) = k
  rw [List.findIdx_eq hk]
  rw [List.getD_eq_getElem?_getD, List.getElem?_eq_getElem hk] at h
  refine ⟨by simpa using h, fun j hj => ?_⟩
  have := h0 j hj
  rw [List.getD_eq_getElem?_getD, List.getElem?_eq_getElem (by omega)] at this
  simpa using this
 unfold roN
 rw [if_pos hm, hx]
 exact ⟨rfl, decide_eq_true hm⟩
theorem ro_no {R : List Int} {c : Int} (h0 : ∀ j, j < R.length → R.getD j 0 ≠ c) : roN R c = ⟨#[]⟩ ∧ decide (c ∈ R) = false := by
 have hm : c ∉ R := fun h => by
  obtain ⟨i, hi, e⟩ := mem_getD_acc (d := (0 : Int)) h
  exact h0 i hi e
 unfold roN
 rw [if_neg hm]
 exact ⟨rfl, decide_eq_false hm⟩
structure WB (w : World) (b : Nat) (g : Grp) (i : Nat) : Prop where
 c0 : w.cell? ⟨b, 0, none⟩ = some (.string (rlN i))
 c1 : w.cell? ⟨b, 1, none⟩ = some (.int .i64 (g.R.getD i 0))
 c2 : w.cell? ⟨b, 2, none⟩ = some (.int .i64 (rlK i))
 c3 : w.cell? ⟨b, 3, none⟩ = some (.int .i64 (rlB i))
 lt : b < w.heap.size
theorem wb_new (w : World) (t : TypeId) (g : Grp) (i : Nat) : WB (w.alloc (.cells #[.string (rlN i), .int .i64 (g.R.getD i 0), .int .i64 (rlK i), .int .i64 (rlB i)] t)) w.heap.size g i := by
 constructor
 case lt => simp
 all_goals (simp only [World.cell?]; rw [heap_alloc_new]; rfl)
set_option maxRecDepth 20000 in
set_option maxHeartbeats 1600000 in
theorem grole_any (g : Grp) (c : Int) (w : World) : Calls Tryz.prog 123 #[grpV g, .int .i64 c] w fun e w' => e = .returned (.tuple #[.string (roN g.R c), .bool (decide (c ∈ g.R))]) ∧ Below w.heap.size w w' := by
 have hB := below_alloc_new (w := w) (.cells #[.string g.cur, .int .i64 g.cy, .int .i64 g.cm, .int .i64 g.cp, .slice g.A g.n g.c, .int .i64 g.r0, .int .i64 g.r1, .int .i64 g.r2, .int .i64 g.r3, .int .i64 g.r4, .int .i64 g.r5, .int .i64 g.r6, .int .i64 g.r7, .int .i64 g.r8, .int .i64 g.r9, .int .i64 g.r10, .int .i64 g.r11, .int .i64 g.r12, .int .i64 g.r13, .int .i64 g.r14, .slice g.E g.m g.d] 29)
 have hG := gb_new w 29 g
 have hat := fun k (hk : k < 15) => ro_at (R := g.R) (c := c) (k := k) hk
 have hno := fun (h : ∀ j, j < 15 → g.R.getD j 0 ≠ c) => ro_no (R := g.R) (c := c) h
 have hix := fun i hi W => rol_index g i hi W
 have h1 := fun w => rolesof_any g w
 generalize roN g.R c = nm at *
 generalize decide (c ∈ g.R) = q at *
 obtain ⟨V, hV⟩ : ∃ V : Value, .agg (rpC g) = V := ⟨_, rfl⟩
 rw [hV] at hix h1
 obtain ⟨U, hU⟩ : ∃ U : Value, rolV g = U := ⟨_, rfl⟩
 rw [hU] at h1
 have hR := gb_roles hG
 rw [hU] at hR
 obtain ⟨s0, hs0⟩ : ∃ s0, w.heap.size = s0 := ⟨_, rfl⟩
 rw [hs0] at hB hR ⊢
 have HS0 := Lib.hid hs0
 have HAt := Lib.hid hat
 have HNo := Lib.hid hno
 have HIx := Lib.hid hix
 have HR := Lib.hid hR
 have H1 := Lib.hid h1
 clear hG hat hno hix h1 hV hU hR
 have hs1 : s0 ≤ (w.alloc (.cells #[.string g.cur, .int .i64 g.cy, .int .i64 g.cm, .int .i64 g.cp, .slice g.A g.n g.c, .int .i64 g.r0, .int .i64 g.r1, .int .i64 g.r2, .int .i64 g.r3, .int .i64 g.r4, .int .i64 g.r5, .int .i64 g.r6, .int .i64 g.r7, .int .i64 g.r8, .int .i64 g.r9, .int .i64 g.r10, .int .i64 g.r11, .int .i64 g.r12, .int .i64 g.r13, .int .i64 g.r14, .slice g.E g.m g.d] 29)).heap.size := by simp; omega
 have HS1 := Lib.hid hs1
 clear hs1
 go_enter Tryz.func123, Tryz.ntmps123
 go_wp2_with (first
  | (refine wpList_load_is rfl 26 _ rfl (.pointer (some ⟨s0, 5, none⟩)) rfl U HR.out ?_)
  | (go_at_call 82; refine (H1.out _).mono ?_; rintro e w1 ⟨rfl, hb⟩; have hB2 := hB.trans (hb.mono HS1.out); clear hb hB HR))
 clear hs0
 go_loopg [11] 15 (fun kx s11 wr => ∃ k : Nat, s11 = .int .i64 k ∧ k ≤ 15 ∧ 15 - k ≤ kx ∧ Hid (∀ j, j < k → g.R.getD j 0 ≠ c) ∧ Below s0 w wr)
 case atStart => exact ⟨0, rfl, by omega, by omega, Lib.hid (fun j h => absurd h (by omega)), hB2⟩
 case round =>
  clear hB2
  obtain ⟨k, rfl, hk, hkx, HN, hB⟩ := hrel
  by_cases hlt : k < 15
  ·have hltz : (k : Int) < 15 := by omega
   have hsz : s0 ≤ wr.heap.size := by have := hB.size; have := HS0.out; omega
   have hix := HIx.out k hlt
   have ha := HAt.out k hlt HN.out
   obtain ⟨z0, z1, z2, z3, zlt⟩ := wb_new wr 124 g k
   have hnx : g.R.getD k 0 ≠ c → Hid (∀ j, j < k + 1 → g.R.getD j 0 ≠ c) := fun h => Lib.hid fun j hj => by
    rcases Nat.lt_or_ge j k with h1 | h1
    ·exact HN.out j h1
    ·obtain rfl : j = k := by omega
     exact h
   have hB1 : Below s0 w (wr.alloc (.cells #[.string (rlN k), .int .i64 (g.R.getD k 0), .int .i64 (rlK k), .int .i64 (rlB k)] 124)) := hB.alloc hsz _
   unfold rowV at hix
   generalize g.R.getD k 0 = x at *
   generalize rlN k = y at *
   generalize rlK k = y2 at *
   generalize rlB k = y3 at *
   obtain ⟨T, hT⟩ : ∃ T, (.agg #[.string y, .int .i64 x, .int .i64 y2, .int .i64 y3] : Value) = T := ⟨_, rfl⟩
   have HIx2 := Lib.hid hix
   clear HN hix hT
   by_cases hq : x = c
   ·have e3 : (x == c) = true := by simp [hq]
    have HR := Lib.hid (ha hq)
    clear ha hnx hq
    go_wp2_with (refine wpList_index_is rfl 125 _ _ rfl V (.int .i64 (k : Int)) rfl rfl _ (HIx2.out _) ?_)
    go_ret2
    exact ⟨by rw [HR.out.1, HR.out.2]; rfl, hB1⟩
   ·have e3 : (x == c) = false := by simp [hq]
    have HN2 := hnx hq
    clear ha hnx hq
    go_wp2_with (refine wpList_index_is rfl 125 _ _ rfl V (.int .i64 (k : Int)) rfl rfl _ (HIx2.out _) ?_)
    go_roundg (15 - (k + 1))
    case measure => omega
    case rel => exact ⟨k + 1, by go_num, by omega, by omega, HN2, hB1⟩
  ·obtain rfl : k = 15 := by omega
   have HR := Lib.hid (HNo.out HN.out)
   go_wp2_with fail
   go_ret2
   exact ⟨by rw [HR.out.1, HR.out.2]; rfl, hB⟩
set_option maxRecDepth 20000 in
set_option maxHeartbeats 1600000 in
theorem gopen_any (g : Grp) (c : Int) (w : World) : Calls Tryz.prog 108 #[grpV g, .int .i64 c] w fun e w' => e = .returned (.bool (opnP g.R c)) ∧ Below w.heap.size w w' := by
 have hB := below_alloc_new (w := w) (.cells #[.string g.cur, .int .i64 g.cy, .int .i64 g.cm, .int .i64 g.cp, .slice g.A g.n g.c, .int .i64 g.r0, .int .i64 g.r1, .int .i64 g.r2, .int .i64 g.r3, .int .i64 g.r4, .int .i64 g.r5, .int .i64 g.r6, .int .i64 g.r7, .int .i64 g.r8, .int .i64 g.r9, .int .i64 g.r10, .int .i64 g.r11, .int .i64 g.r12, .int .i64 g.r13, .int .i64 g.r14, .slice g.E g.m g.d] 29)
 have hG := gb_new w 29 g
 have hv : opnP g.R c = (decide (c = g.r0) || (decide (c = g.r3) || (decide (c = g.r6) || (decide (c = g.r11) || !decide (c ∈ g.R))))) := rfl
 have h1 := fun w => grole_any g c w
 obtain ⟨V, hV⟩ : ∃ V, V = grpV g := ⟨_, rfl⟩
 rw [← hV] at h1
 generalize roN g.R c = nm at *
 generalize decide (c ∈ g.R) = q at *
 generalize opnP g.R c = r at *
 obtain ⟨s0, hs0⟩ : ∃ s0, w.heap.size = s0 := ⟨_, rfl⟩
 rw [hs0] at hB hG ⊢
 have HV := Lib.hid hV
 have HG := Lib.hid hG
 have H1 := Lib.hid h1
 have HX := Lib.hid hv
 obtain ⟨-, -, -, -, -, c5, -, -, c8, -, -, c11, -, -, -, -, c16, -, -, -, -, -⟩ := hG
 clear hV h1 hv
 have hs1 : s0 ≤ (w.alloc (.cells #[.string g.cur, .int .i64 g.cy, .int .i64 g.cm, .int .i64 g.cp, .slice g.A g.n g.c, .int .i64 g.r0, .int .i64 g.r1, .int .i64 g.r2, .int .i64 g.r3, .int .i64 g.r4, .int .i64 g.r5, .int .i64 g.r6, .int .i64 g.r7, .int .i64 g.r8, .int .i64 g.r9, .int .i64 g.r10, .int .i64 g.r11, .int .i64 g.r12, .int .i64 g.r13, .int .i64 g.r14, .slice g.E g.m g.d] 29)).heap.size := by simp; omega
 have HS1 := Lib.hid hs1
 clear hs1
 by_cases k0 : c = g.r0
 ·have e0 : (c == g.r0) = true := by simp [k0]
  have HR : Hid (r = true) := Lib.hid (by rw [HX.out, decide_eq_true k0]; rfl)
  clear k0 HX
  go_enter Tryz.func108, Tryz.ntmps108
  go_wp2_with fail
  go_ret
  exact ⟨by rw [HR.out]; rfl, hB⟩
 have e0 : (c == g.r0) = false := by simp [k0]
 have f0 := decide_eq_false k0
 by_cases k3 : c = g.r3
 ·have e3 : (c == g.r3) = true := by simp [k3]
  have HR : Hid (r = true) := Lib.hid (by rw [HX.out, decide_eq_true k3]; simp)
  clear k0 k3 HX f0
  go_enter Tryz.func108, Tryz.ntmps108
  go_wp2_with fail
  go_ret
  exact ⟨by rw [HR.out]; rfl, hB⟩
 have e3 : (c == g.r3) = false := by simp [k3]
 have f3 := decide_eq_false k3
 by_cases k6 : c = g.r6
 ·have e6 : (c == g.r6) = true := by simp [k6]
  have HR : Hid (r = true) := Lib.hid (by rw [HX.out, decide_eq_true k6]; simp)
  clear k0 k3 k6 HX f0 f3
  go_enter Tryz.func108, Tryz.ntmps108
  go_wp2_with fail
  go_ret
  exact ⟨by rw [HR.out]; rfl, hB⟩
 have e6 : (c == g.r6) = false := by simp [k6]
 have f6 := decide_eq_false k6
 by_cases k11 : c = g.r11
 ·have e11 : (c == g.r11) = true := by simp [k11]
  have HR : Hid (r = true) := Lib.hid (by rw [HX.out, decide_eq_true k11]; simp)
  clear k0 k3 k6 k11 HX f0 f3 f6
  go_enter Tryz.func108, Tryz.ntmps108
  go_wp2_with fail
  go_ret
  exact ⟨by rw [HR.out]; rfl, hB⟩
 have e11 : (c == g.r11) = false := by simp [k11]
 have HR : Hid (r = !q) := Lib.hid (by rw [HX.out, f0, f3, f6, decide_eq_false k11]; simp)
 clear k0 k3 k6 k11 HX f0 f3 f6
 go_enter Tryz.func108, Tryz.ntmps108
 go_wp2_with (first
  | (refine wpList_load_is rfl 29 _ rfl (.pointer (some ⟨s0, 0, none⟩)) rfl V (gb_lV HG.out HV.out) ?_)
  | (go_at_call 123; refine (H1.out _).mono ?_; rintro e w1 ⟨rfl, hb⟩; have hB2 := hB.trans (hb.mono HS1.out); clear hb hB HG))
 go_ret
 exact ⟨by rw [HR.out]; rfl, hB2⟩
open Go.RowKit Go.Maps
def SetI (w : World) (b m : Nat) (S : Int → Bool) : Prop := ∃ D : DataW Value, w.ownsMap Tryz.prog 3 heldE b m D ∧ Maps.size D = m ∧ ∀ x, Maps.has D (.int .i64 x) = S x
theorem SetI.lt {w : World} {b m : Nat} {S : Int → Bool} (h : SetI w b m S) : b < w.heap.size := by
 obtain ⟨D, h1, _⟩ := h
 exact h1.lt
theorem SetI.blk {w w' : World} {b m : Nat} {S : Int → Bool} (h : SetI w b m S) (hk : w'.heap[b]? = w.heap[b]?) : SetI w' b m S := by
 obtain ⟨D, ⟨es, clock, hb, rest⟩, h2⟩ := h
 exact ⟨D, ⟨es, clock, hk.trans hb, rest⟩, h2⟩
theorem SetI.up {w w' : World} {b m : Nat} {S : Int → Bool} (h : SetI w b m S) (hb : Below w.heap.size w w') : SetI w' b m S := h.blk (hb.block b h.lt)
theorem SetI.made (w : World) : SetI (w.alloc (.map #[] 0)) w.heap.size 0 (fun _ => false) :=
 ⟨.map [], World.ownsMap_made _ _ _ _, rfl, fun _ => rfl⟩
theorem wpList_seti_put {w : World} {ops : Array Oper} {rest : List Oper} {o : Oper} {a : Act} {Q : Exit → Act → World → Prop} (hg : o.guard = none) (m x y : Operand) (t e : TypeId) (hop : o.op = Op.mapUpdate t m x y)
  (ht : Tryz.prog.underlying t = some (.map 3 e))
  (b n : Nat) (S : Int → Bool) (hm : a.eval m = .map (some b)) (hs : SetI w b n S) (c : Int) (hx : a.eval x = .int .i64 c) (v : Value) (hy : a.eval y = v) (hw : (Lit.int .i64 c).wf = true) (hn : n ≤ 1000000)
  (hK : ∀ w', Hid (SetI w' b (if S c = true then n else n + 1) (fun x => decide (x = c) || S x)) → Hid (w.grownBy w' (some b)) → wpList Tryz.prog ops Q rest (a.put o.dst undef) w') : wpList Tryz.prog ops Q (o :: rest) a w := by
 obtain ⟨D, h1, hsz, h3⟩ := hs
 have h2 := h1.isMap
 have ht2 := h1.tidy ti_keyed
 refine wpList_mapUpdate_own w hg m x y t hop 3 e ti_keyed ht heldE b n D hm h1 (by unfold maxLen; omega) _ _ _ hx hy (keyOf_int_mk Tryz.underlying3 hw) (.held v) [] rfl ?_
 intro w' h4 h5
 have hsz2 : Maps.size (D.put (.int .i64 c) (.held v)) = if S c = true then n else n + 1 := by
  rw [size_put ht2, h3 c, hsz]
 have hkl : ∀ z : Int, WideAt.IsKeyLit (Lit.int .i64 z) := fun z => by simp [WideAt.IsKeyLit]
 refine hK w' (Lib.hid ⟨_, ?_, hsz2, fun x => ?_⟩) (Lib.hid h5)
 ·obtain ⟨es, clock, hb, F, hes, hD⟩ := h4
  refine ⟨es, clock, hb, F, ?_, hD⟩
  have : es.size = Maps.size (D.put (.int .i64 c) (.held v)) := by rw [hD, size_eq, length_sorted]; simp
  omega
 ·by_cases hxc : x = c
  ·subst hxc
   rw [has_put_same h2 (hkl _)]
   simp
  ·have hne : Lit.int .i64 x ≠ Lit.int .i64 c := fun e => hxc (by injection e)
   rw [has_put_other hne, h3 x]
   show S x = (decide (x = c) || S x)
   rw [decide_eq_false hxc]; rfl
theorem wpList_seti_len {w : World} {ops : Array Oper} {rest : List Oper} {o : Oper} {a : Act} {Q : Exit → Act → World → Prop} (hg : o.guard = none) (m : Operand) (t e : TypeId) (hop : o.op = Op.call { callee := Callee.builtin Builtin.len, args := #[m], argTypes := #[t] })
  (ht : Tryz.prog.underlying t = some (.map 3 e)) (b n : Nat) (S : Int → Bool) (hm : a.eval m = .map (some b)) (hs : SetI w b n S)
  (hK : wpList Tryz.prog ops Q rest (a.put o.dst (.int .i64 (n : Int))) w) : wpList Tryz.prog ops Q (o :: rest) a w := by
 obtain ⟨D, h1, hsz, h3⟩ := hs
 refine wpList_len_own w hg m t hop 3 e ht heldE b n D hm h1 ?_
 rw [hsz]; exact hK
abbrev zC : Array Value := #[.string ⟨#[]⟩, .int .i64 0, .int .i64 0, .int .i64 0, .string ⟨#[]⟩, .int .i64 0, .int .i64 0, .int .i64 0, .string ⟨#[]⟩, .int .i64 0, .int .i64 0, .int .i64 0, .string ⟨#[]⟩, .int .i64 0, .int .i64 0, .int .i64 0, .string ⟨#[]⟩, .int .i64 0, .int .i64 0, .int .i64 0, .string ⟨#[]⟩, .int .i64 0, .int .i64 0, .int .i64 0, .string ⟨#[]⟩, .int .i64 0, .int .i64 0, .int .i64 0, .string ⟨#[]⟩, .int .i64 0, .int .i64 0, .int .i64 0, .string ⟨#[]⟩, .int .i64 0, .int .i64 0, .int .i64 0, .string ⟨#[]⟩, .int .i64 0, .int .i64 0, .int .i64 0, .string ⟨#[]⟩, .int .i64 0, .int .i64 0, .int .i64 0, .string ⟨#[]⟩, .int .i64 0, .int .i64 0, .int .i64 0, .string ⟨#[]⟩, .int .i64 0, .int .i64 0, .int .i64 0, .string ⟨#[]⟩, .int .i64 0, .int .i64 0, .int .i64 0, .string ⟨#[]⟩, .int .i64 0, .int .i64 0, .int .i64 0]
abbrev w66 (w1 : World) (g : Grp) : World := ((w1.alloc (.map #[] 0)).alloc (.cells zC 125)).setCells (w1.heap.size + 1) 0 (rpC g).toList
theorem w66_there (w1 : World) (g : Grp) : ((w1.alloc (.map #[] 0)).alloc (.cells zC 125)).there (w1.heap.size + 1) 0 (rpC g).size := by
 have h := there_new (w1.alloc (.map #[] 0)) zC 125
 have e1 : (w1.alloc (.map #[] 0)).heap.size = w1.heap.size + 1 := by simp
 rw [e1] at h
 exact h
theorem w66_is (w1 : World) (g : Grp) : Below w1.heap.size w1 (w66 w1 g) ∧ SetI (w66 w1 g) w1.heap.size 0 (fun _ => false) ∧ (Instr.loadAt 125 (.pointer (some ⟨w1.heap.size + 1, 0, none⟩))).run Tryz.prog (w66 w1 g) = .ok (.agg (rpC g)) (w66 w1 g) := by
 have e1 : (w1.alloc (.map #[] 0)).heap.size = w1.heap.size + 1 := by simp
 refine ⟨below_setCells (by omega) _ _ (below_new (below_alloc_new _) _), (SetI.made w1).up ?_, ?_⟩
 ·rw [e1]
  refine below_setCells (Nat.le_refl _) _ _ ?_
  have := below_alloc_new (w := w1.alloc (.map #[] 0)) (.cells zC 125)
  rwa [e1] at this
 ·exact run_loadAt_mid _ (w1.heap.size + 1) 0 125 (rpC g).toList _ (World.rangeAt_setCells_same _ _ _ _ (w66_there w1 g)) Tryz.underlying125 rfl (by kernel_rfl)
theorem rls_no {L : List Acc} {R : List Int} {k : Nat} (hk : k < 15) (h : chkR L R k = false) : rlsB L R = false := by
 unfold rlsB
 rw [allTo_no hk h]; rfl
theorem rls_end {L : List Acc} {R : List Int} {m : Nat} {S : Int → Bool} (h : allTo (chkR L R) 15 = true) (hr : RI R 15 m S) : rlsB L R = ((m : Int) == 15) := by
 unfold rlsB
 rw [h, Bool.true_and]
 have := hr.iff
 by_cases hm : m = 15
 ·rw [this.1 hm, hm]; rfl
 ·have h2 : allTo (dsR R) 15 = false := by
   cases hd : allTo (dsR R) 15
   ·rfl
   ·exact absurd (this.2 hd) hm
  rw [h2]; symm; exact beq_eq_false_iff_ne.2 (by omega)
theorem wpList_store66 {ops : Array Oper} {rest : List Oper} {o : Oper} {a : Act} {Q : Exit → Act → World → Prop} (hg : o.guard = none) (x y : Operand) (ho : o.op = .store 125 x y) (w1 : World) (g : Grp) (V : Value) (hx : a.eval x = .pointer (some ⟨w1.heap.size + 1, 0, none⟩)) (hy : a.eval y = V) (hV : V = .agg (rpC g))
  (h : ∀ W2, Hid (Below w1.heap.size w1 W2) → Hid (SetI W2 w1.heap.size 0 (fun _ => false)) → Hid ((Instr.loadAt 125 (.pointer (some ⟨w1.heap.size + 1, 0, none⟩))).run Tryz.prog W2 = .ok V W2) → wpList Tryz.prog ops Q rest (a.put o.dst undef) W2) :
  wpList Tryz.prog ops Q (o :: rest) a ((w1.alloc (.map #[] 0)).alloc (.cells zC 125)) := by
 obtain ⟨h1, h2, h3⟩ := w66_is w1 g
 subst hV
 exact wpList_store_mid hg 125 x y ho (w1.heap.size + 1) 0 (rpC g) hx hy (w66_there w1 g) (by kernel_rfl) (by kernel_rfl) (h _ (Lib.hid h1) (Lib.hid h2) (Lib.hid h3))
structure WX (w : World) (b : Nat) (y1 : ByteArray) (x y2 y3 : Int) : Prop where
 c0 : w.cell? ⟨b, 0, none⟩ = some (.string y1)
 c1 : w.cell? ⟨b, 1, none⟩ = some (.int .i64 x)
 c2 : w.cell? ⟨b, 2, none⟩ = some (.int .i64 y2)
 c3 : w.cell? ⟨b, 3, none⟩ = some (.int .i64 y3)
 lt : b < w.heap.size
theorem wx_new (w : World) (t : TypeId) (y1 : ByteArray) (x y2 y3 : Int) : WX (w.alloc (.cells #[.string y1, .int .i64 x, .int .i64 y2, .int .i64 y3] t)) w.heap.size y1 x y2 y3 := by
 constructor
 case lt => simp
 all_goals (simp only [World.cell?]; rw [heap_alloc_new]; rfl)
theorem WX.up {w w' : World} {b : Nat} {y1 : ByteArray} {x y2 y3 : Int} (h : WX w b y1 x y2 y3) (hb : Below w.heap.size w w') : WX w' b y1 x y2 y3 :=
 ⟨(hb.cell (p := ⟨b, 0, none⟩) h.lt).trans h.c0, (hb.cell (p := ⟨b, 1, none⟩) h.lt).trans h.c1, (hb.cell (p := ⟨b, 2, none⟩) h.lt).trans h.c2, (hb.cell (p := ⟨b, 3, none⟩) h.lt).trans h.c3, Nat.lt_of_lt_of_le h.lt hb.size⟩
set_option maxRecDepth 20000 in
set_option maxHeartbeats 3200000 in
theorem groles_any (g : Grp) (L : List Acc) (w : World) (hz : AccAt w g.A L) (ln : L.length = g.n) (hl : g.n ≤ 1000) (hw : ∀ x ∈ g.R, (Lit.int .i64 x).wf = true) :
    Calls Tryz.prog 58 #[grpV g] w fun e w' => e = .returned (.bool (rlsB L g.R)) ∧ Below w.heap.size w w' := by
  have hB := below_alloc_new (w := w) (.cells #[.string g.cur, .int .i64 g.cy, .int .i64 g.cm, .int .i64 g.cp, .slice g.A g.n g.c, .int .i64 g.r0, .int .i64 g.r1, .int .i64 g.r2, .int .i64 g.r3, .int .i64 g.r4, .int .i64 g.r5, .int .i64 g.r6, .int .i64 g.r7, .int .i64 g.r8, .int .i64 g.r9, .int .i64 g.r10, .int .i64 g.r11, .int .i64 g.r12, .int .i64 g.r13, .int .i64 g.r14, .slice g.E g.m g.d] 29)
  have hG := gb_new w 29 g
  have hwk : ∀ k, k < 15 → (Lit.int .i64 (g.R.getD k 0)).wf = true := fun k hk => hw _ (getD_mem_acc hk)
  have hno := fun k => rls_no (L := L) (R := g.R) (k := k)
  have hend := fun m S => rls_end (L := L) (R := g.R) (m := m) (S := S)
  have hix := fun i hi W => rol_index g i hi W
  have h1 := fun w => rolesof_any g w
  have h2 := fun x w h => gacct_any g L x w h ln hl
  obtain ⟨V, hV⟩ : ∃ V : Value, V = .agg (rpC g) := ⟨_, rfl⟩
  rw [← hV] at h1
  have hix2 : ∀ i : Nat, i < 15 → ∀ W, (Instr.index 125 V (.int .i64 (i : Int))).run Tryz.prog W = .ok (rowV g i) W := fun i hi W => by rw [hV]; exact hix i hi W
  obtain ⟨U, hU⟩ : ∃ U : Value, rolV g = U := ⟨_, rfl⟩
  rw [hU] at h1
  have hR := gb_roles hG
  rw [hU] at hR
  obtain ⟨X, hX⟩ : ∃ X : Value, X = grpV g := ⟨_, rfl⟩
  rw [← hX] at h2
  have hck : ∀ k, chkR L g.R k = ((fnd L (g.R.getD k 0)).isSome && (decide ((fndA L (g.R.getD k 0)).kind = rlK k) && decide ((fndA L (g.R.getD k 0)).basis = rlB k))) := fun _ => rfl
  generalize rlsB L g.R = r at *
  obtain ⟨P, hP⟩ : ∃ P : Nat → Bool, chkR L g.R = P := ⟨_, rfl⟩
  rw [hP] at hend hck
  simp only [hP] at hno
  obtain ⟨s0, hs0⟩ : ∃ s0, w.heap.size = s0 := ⟨_, rfl⟩
  have hs1 : s0 ≤ (w.alloc (.cells #[.string g.cur, .int .i64 g.cy, .int .i64 g.cm, .int .i64 g.cp, .slice g.A g.n g.c, .int .i64 g.r0, .int .i64 g.r1, .int .i64 g.r2, .int .i64 g.r3, .int .i64 g.r4, .int .i64 g.r5, .int .i64 g.r6, .int .i64 g.r7, .int .i64 g.r8, .int .i64 g.r9, .int .i64 g.r10, .int .i64 g.r11, .int .i64 g.r12, .int .i64 g.r13, .int .i64 g.r14, .slice g.E g.m g.d] 29)).heap.size := by simp; omega
  rw [hs0] at hB hR hG ⊢
  have HS0 := Lib.hid hs0
  have HZ := Lib.hid hz
  have HG := Lib.hid hG
  have HV := Lib.hid hV
  have HX := Lib.hid hX
  have HWK := Lib.hid hwk
  have HNo := Lib.hid hno
  have HE := Lib.hid hend
  have HIx := Lib.hid hix2
  have HR := Lib.hid hR
  have HCK := Lib.hid hck
  have H1 := Lib.hid h1
  have H2 := Lib.hid h2
  have HS1 := Lib.hid hs1
  have hmm := @run_makeMap Tryz.prog
  clear hz ln hl hG hno hend hix hix2 h1 h2 hV hU hR hX hck hP hs1 hwk hw
  go_enter Tryz.func58, Tryz.ntmps58
  go_wp2_with (first
    | (refine wpList_load_is rfl 26 _ rfl (.pointer (some ⟨s0, 5, none⟩)) rfl U HR.out ?_)
    | (go_at_call 82; refine (H1.out _).mono ?_; rintro e w1 ⟨rfl, hb⟩; have hB1 := hB.trans (hb.mono HS1.out); have HG1 := Lib.hid (HG.out.up hb); have hsz1 : s0 ≤ w1.heap.size := Nat.le_trans HS1.out hb.size; clear hb hB HG)
    | (refine wpList_store66 rfl _ _ rfl w1 g V rfl rfl HV.out ?_
       intro W2 hb2 HM HLD
       have hB2 := hB1.trans (hb2.out.mono hsz1)
       have HG2 := Lib.hid (HG1.out.up hb2.out)
       have HMS : Hid (s0 < w1.heap.size) := Lib.hid HG1.out.lt
       clear hB1 HG1 hsz1 hb2 H1)
    | (refine wpList_load_is rfl 125 _ rfl (.pointer (some ⟨w1.heap.size + 1, 0, none⟩)) rfl V HLD.out ?_))
  obtain ⟨mb, hmb⟩ : ∃ mb, w1.heap.size = mb := ⟨_, rfl⟩
  rw [hmb] at HM HMS ⊢
  clear hmb HLD hs0 HR HS1
  go_loopg [14] 15 (fun kx s14 wr => ∃ (k m : Nat) (S : Int → Bool), s14 = .int .i64 k ∧ k ≤ 15 ∧ 15 - k ≤ kx ∧ Hid (allTo P k = true) ∧ Hid (RI g.R k m S) ∧ Hid (SetI wr mb m S) ∧ Hid (GB wr s0 g) ∧ Below s0 w wr)
  case atStart => exact ⟨0, 0, _, rfl, by omega, by omega, Lib.hid rfl, Lib.hid RI.start, HM, HG2, hB2⟩
  case round =>
    clear hB2 HM HG2
    obtain ⟨k, m, S, rfl, hk, hkx, HA, HRI, HM, HG, hB⟩ := hrel
    by_cases hlt : k < 15
    · have hltz : (k : Int) < 15 := by omega
      have hsz : s0 ≤ wr.heap.size := by have := HG.out.lt; omega
      have hix := HIx.out k hlt
      have hno := HNo.out k hlt
      have hck := HCK.out k
      have hwx := HWK.out k hlt
      have hrs := HRI.out.step (x := g.R.getD k 0) rfl
      have hm1 : m ≤ 15 := by have := HRI.out.le; omega
      have hnx : P k = true → Hid (allTo P (k + 1) = true) := fun h => Lib.hid (by show (allTo P k && P k) = true; rw [HA.out, h]; rfl)
      unfold rowV at hix
      generalize g.R.getD k 0 = x at *
      generalize rlN k = y1 at *
      generalize rlK k = y2 at *
      generalize rlB k = y3 at *
      have h2x := fun w h => H2.out x w h
      have hwb := wx_new wr 124 y1 x y2 y3
      have HB1 : Hid (Below s0 w (wr.alloc (.cells #[.string y1, .int .i64 x, .int .i64 y2, .int .i64 y3] 124))) := Lib.hid (hB.alloc hsz _)
      have HSZ1 : Hid (s0 ≤ (wr.alloc (.cells #[.string y1, .int .i64 x, .int .i64 y2, .int .i64 y3] 124)).heap.size) := Lib.hid (by simp; omega)
      have HG1 := Lib.hid (HG.out.up (below_alloc_new (.cells #[.string y1, .int .i64 x, .int .i64 y2, .int .i64 y3] 124)))
      have HM1 := Lib.hid (HM.out.up (below_alloc_new (.cells #[.string y1, .int .i64 x, .int .i64 y2, .int .i64 y3] 124)))
      have HZ1 : Hid (AccAt (wr.alloc (.cells #[.string y1, .int .i64 x, .int .i64 y2, .int .i64 y3] 124)) g.A L) := Lib.hid (HZ.out.up (by rw [HS0.out]; exact HB1.out))
      have HW1 := Lib.hid hwb
      obtain ⟨y0', y1', y2', y3', ylt⟩ := hwb
      generalize (fnd L x).isSome = q1 at *
      generalize fndA L x = fa at *
      have e2 : (fa.kind != y2) = !decide (fa.kind = y2) := by by_cases h : fa.kind = y2 <;> simp [h]
      have e3 : (fa.basis != y3) = !decide (fa.basis = y3) := by by_cases h : fa.basis = y3 <;> simp [h]
      generalize decide (fa.kind = y2) = q2 at *
      generalize decide (fa.basis = y3) = q3 at *
      have HIx2 := Lib.hid hix
      have H2x := Lib.hid h2x
      have HWx := Lib.hid hwx
      have HRS := Lib.hid hrs
      clear hix h2x hwx hrs HA HG HM hB
      rcases (show q1 = false ∨ (q1 = true ∧ q2 = false) ∨ (q1 = true ∧ q2 = true ∧ q3 = false) ∨ (q1 = true ∧ q2 = true ∧ q3 = true) from by cases q1 <;> cases q2 <;> cases q3 <;> simp) with rfl | ⟨rfl, rfl⟩ | ⟨rfl, rfl, rfl⟩ | ⟨rfl, rfl, rfl⟩
      · have HR := Lib.hid (hno (by rw [hck]; rfl))
        clear hno hck hnx HRS
        go_wp2_with (first
          | (refine wpList_index_is rfl 125 _ _ rfl V (.int .i64 (k : Int)) rfl rfl _ (HIx2.out _) ?_)
          | (refine wpList_load_is rfl 29 _ rfl (.pointer (some ⟨s0, 0, none⟩)) rfl X (gb_lV HG1.out HX.out) ?_)
          | (go_at_call 83; (with_reducible refine (H2x.out _ HZ1.out).mono ?_); rintro e w3 ⟨rfl, hb⟩; have HG3 := Lib.hid ((HG1.out.up hb).up (below_alloc_new (.cells #[.int .i64 fa.code, .int .i64 fa.kind, .int .i64 fa.basis, .int .i64 fa.par] 91))); have HM3 := Lib.hid ((HM1.out.up hb).up (below_alloc_new (.cells #[.int .i64 fa.code, .int .i64 fa.kind, .int .i64 fa.basis, .int .i64 fa.par] 91))); have hsz3 : s0 ≤ (w3.alloc (.cells #[.int .i64 fa.code, .int .i64 fa.kind, .int .i64 fa.basis, .int .i64 fa.par] 91)).heap.size := Nat.le_trans (Nat.le_trans HSZ1.out hb.size) (by simp); have hB3 := (HB1.out.trans (hb.mono HSZ1.out)).alloc (Nat.le_trans HSZ1.out hb.size) (.cells #[.int .i64 fa.code, .int .i64 fa.kind, .int .i64 fa.basis, .int .i64 fa.par] 91); obtain ⟨z0, z1, z2, z3, zlt⟩ := (HW1.out.up hb).up (below_alloc_new (.cells #[.int .i64 fa.code, .int .i64 fa.kind, .int .i64 fa.basis, .int .i64 fa.par] 91)); obtain ⟨⟨v0, v1, v2, v3⟩, vlt, -⟩ := ab_new w3 91 fa; simp only [Nat.zero_add] at v1 v2 v3; clear hb y0' y1' y2' y3' ylt HG1 HZ1 HM1 HSZ1 HB1 HW1))
        go_ret
        exact ⟨by rw [HR.out]; rfl, hB3⟩
      · have HR := Lib.hid (hno (by rw [hck]; rfl))
        clear hno hck hnx HRS
        go_wp2_with (first
          | (refine wpList_index_is rfl 125 _ _ rfl V (.int .i64 (k : Int)) rfl rfl _ (HIx2.out _) ?_)
          | (refine wpList_load_is rfl 29 _ rfl (.pointer (some ⟨s0, 0, none⟩)) rfl X (gb_lV HG1.out HX.out) ?_)
          | (go_at_call 83; (with_reducible refine (H2x.out _ HZ1.out).mono ?_); rintro e w3 ⟨rfl, hb⟩; have HG3 := Lib.hid ((HG1.out.up hb).up (below_alloc_new (.cells #[.int .i64 fa.code, .int .i64 fa.kind, .int .i64 fa.basis, .int .i64 fa.par] 91))); have HM3 := Lib.hid ((HM1.out.up hb).up (below_alloc_new (.cells #[.int .i64 fa.code, .int .i64 fa.kind, .int .i64 fa.basis, .int .i64 fa.par] 91))); have hsz3 : s0 ≤ (w3.alloc (.cells #[.int .i64 fa.code, .int .i64 fa.kind, .int .i64 fa.basis, .int .i64 fa.par] 91)).heap.size := Nat.le_trans (Nat.le_trans HSZ1.out hb.size) (by simp); have hB3 := (HB1.out.trans (hb.mono HSZ1.out)).alloc (Nat.le_trans HSZ1.out hb.size) (.cells #[.int .i64 fa.code, .int .i64 fa.kind, .int .i64 fa.basis, .int .i64 fa.par] 91); obtain ⟨z0, z1, z2, z3, zlt⟩ := (HW1.out.up hb).up (below_alloc_new (.cells #[.int .i64 fa.code, .int .i64 fa.kind, .int .i64 fa.basis, .int .i64 fa.par] 91)); obtain ⟨⟨v0, v1, v2, v3⟩, vlt, -⟩ := ab_new w3 91 fa; simp only [Nat.zero_add] at v1 v2 v3; clear hb y0' y1' y2' y3' ylt HG1 HZ1 HM1 HSZ1 HB1 HW1))
        go_ret
        exact ⟨by rw [HR.out]; rfl, hB3⟩
      · have HR := Lib.hid (hno (by rw [hck]; rfl))
        clear hno hck hnx HRS
        go_wp2_with (first
          | (refine wpList_index_is rfl 125 _ _ rfl V (.int .i64 (k : Int)) rfl rfl _ (HIx2.out _) ?_)
          | (refine wpList_load_is rfl 29 _ rfl (.pointer (some ⟨s0, 0, none⟩)) rfl X (gb_lV HG1.out HX.out) ?_)
          | (go_at_call 83; (with_reducible refine (H2x.out _ HZ1.out).mono ?_); rintro e w3 ⟨rfl, hb⟩; have HG3 := Lib.hid ((HG1.out.up hb).up (below_alloc_new (.cells #[.int .i64 fa.code, .int .i64 fa.kind, .int .i64 fa.basis, .int .i64 fa.par] 91))); have HM3 := Lib.hid ((HM1.out.up hb).up (below_alloc_new (.cells #[.int .i64 fa.code, .int .i64 fa.kind, .int .i64 fa.basis, .int .i64 fa.par] 91))); have hsz3 : s0 ≤ (w3.alloc (.cells #[.int .i64 fa.code, .int .i64 fa.kind, .int .i64 fa.basis, .int .i64 fa.par] 91)).heap.size := Nat.le_trans (Nat.le_trans HSZ1.out hb.size) (by simp); have hB3 := (HB1.out.trans (hb.mono HSZ1.out)).alloc (Nat.le_trans HSZ1.out hb.size) (.cells #[.int .i64 fa.code, .int .i64 fa.kind, .int .i64 fa.basis, .int .i64 fa.par] 91); obtain ⟨z0, z1, z2, z3, zlt⟩ := (HW1.out.up hb).up (below_alloc_new (.cells #[.int .i64 fa.code, .int .i64 fa.kind, .int .i64 fa.basis, .int .i64 fa.par] 91)); obtain ⟨⟨v0, v1, v2, v3⟩, vlt, -⟩ := ab_new w3 91 fa; simp only [Nat.zero_add] at v1 v2 v3; clear hb y0' y1' y2' y3' ylt HG1 HZ1 HM1 HSZ1 HB1 HW1))
        go_ret
        exact ⟨by rw [HR.out]; rfl, hB3⟩
      · have HA2 := hnx (by rw [hck]; rfl)
        clear hno hck hnx
        go_wp2_with (first
          | (refine wpList_index_is rfl 125 _ _ rfl V (.int .i64 (k : Int)) rfl rfl _ (HIx2.out _) ?_)
          | (refine wpList_load_is rfl 29 _ rfl (.pointer (some ⟨s0, 0, none⟩)) rfl X (gb_lV HG1.out HX.out) ?_)
          | (go_at_call 83; (with_reducible refine (H2x.out _ HZ1.out).mono ?_); rintro e w3 ⟨rfl, hb⟩; have HG3 := Lib.hid ((HG1.out.up hb).up (below_alloc_new (.cells #[.int .i64 fa.code, .int .i64 fa.kind, .int .i64 fa.basis, .int .i64 fa.par] 91))); have HM3 := Lib.hid ((HM1.out.up hb).up (below_alloc_new (.cells #[.int .i64 fa.code, .int .i64 fa.kind, .int .i64 fa.basis, .int .i64 fa.par] 91))); have hsz3 : s0 ≤ (w3.alloc (.cells #[.int .i64 fa.code, .int .i64 fa.kind, .int .i64 fa.basis, .int .i64 fa.par] 91)).heap.size := Nat.le_trans (Nat.le_trans HSZ1.out hb.size) (by simp); have hB3 := (HB1.out.trans (hb.mono HSZ1.out)).alloc (Nat.le_trans HSZ1.out hb.size) (.cells #[.int .i64 fa.code, .int .i64 fa.kind, .int .i64 fa.basis, .int .i64 fa.par] 91); obtain ⟨z0, z1, z2, z3, zlt⟩ := (HW1.out.up hb).up (below_alloc_new (.cells #[.int .i64 fa.code, .int .i64 fa.kind, .int .i64 fa.basis, .int .i64 fa.par] 91)); obtain ⟨⟨v0, v1, v2, v3⟩, vlt, -⟩ := ab_new w3 91 fa; simp only [Nat.zero_add] at v1 v2 v3; clear hb y0' y1' y2' y3' ylt HG1 HZ1 HM1 HSZ1 HB1 HW1)
          | (at_mapUpdate; refine wpList_seti_put rfl _ _ _ _ 4 rfl Tryz.underlying127 mb m S rfl HM3.out x rfl _ rfl HWx.out (by omega) ?_; intro w4 hm4 hg4; have hb4 := grown_below hB3 hg4.out (Nat.le_of_lt HMS.out) hsz3; have HG4 := Lib.hid (HG3.out.blk (hg4.out.block s0 HG3.out.lt (by intro e; injection e with e; have := HMS.out; omega))); clear hg4))
        go_roundg (15 - (k + 1))
        case measure => omega
        case rel => exact ⟨k + 1, _, _, by go_num, by omega, by omega, HA2, HRS, hm4, HG4, hb4⟩
    · obtain rfl : k = 15 := by omega
      have HR := Lib.hid (HE.out m S HA.out HRI.out)
      go_wp2_with (at_len; refine wpList_seti_len rfl _ _ 4 rfl Tryz.underlying127 mb m S rfl HM.out ?_)
      go_ret
      exact ⟨by rw [HR.out]; rfl, hB⟩
structure Tri (w : World) (g : Nat) (y m k : Int) : Prop where
 c0 : w.cell? ⟨g, 0, none⟩ = some (.int .i64 y)
 c1 : w.cell? ⟨g, 1, none⟩ = some (.int .i64 m)
 c2 : w.cell? ⟨g, 2, none⟩ = some (.int .i64 k)
 lt : g < w.heap.size
theorem Tri.up {w w' : World} {g : Nat} {y m k : Int} (h : Tri w g y m k) (hb : Below w.heap.size w w') : Tri w' g y m k :=
 ⟨(hb.cell (p := ⟨g, 0, none⟩) h.lt).trans h.c0, (hb.cell (p := ⟨g, 1, none⟩) h.lt).trans h.c1, (hb.cell (p := ⟨g, 2, none⟩) h.lt).trans h.c2, Nat.lt_of_lt_of_le h.lt hb.size⟩
theorem tri_new (w : World) (t : TypeId) (y m k : Int) : Tri (w.alloc (.cells #[.int .i64 y, .int .i64 m, .int .i64 k] t)) w.heap.size y m k ∧ Below w.heap.size w (w.alloc (.cells #[.int .i64 y, .int .i64 m, .int .i64 k] t)) := by
 refine ⟨⟨?_, ?_, ?_, by simp⟩, below_alloc_new _⟩ <;> (simp only [World.cell?]; rw [heap_alloc_new]; rfl)
abbrev calV (y m k : Int) : Value := .agg #[.int .i64 y, .int .i64 m, .int .i64 k]
theorem dec_nat {a b : Nat} : decide ((a : Int) ≤ (b : Int)) = decide (a ≤ b) := by
 by_cases h : a ≤ b
 ·rw [decide_eq_true h, decide_eq_true (by omega)]
 ·rw [decide_eq_false h, decide_eq_false (by omega)]
theorem gcap_any (b : UInt8) (w : World) : Calls Tryz.prog 76 #[.int .u8 (b.toNat : Int)] w fun e w' => e = .returned (.bool (capB b)) ∧ w = w' := by
 unfold capB
 rcases Nat.lt_or_ge b.toNat 65 with h1 | h1
 ·have e1 : decide ((65 : Int) ≤ (b.toNat : Int)) = false := decide_eq_false (by omega)
  have e2 : decide (65 ≤ b.toNat) = false := decide_eq_false (by omega)
  rw [e2]
  clear h1
  go_enter Tryz.func76, Tryz.ntmps76
  go_wp2_with fail
  go_ret
  exact ⟨rfl, rfl⟩
 ·have e1 : decide ((65 : Int) ≤ (b.toNat : Int)) = true := decide_eq_true (by omega)
  have e2 : decide (65 ≤ b.toNat) = true := decide_eq_true (by omega)
  have e3 : decide ((b.toNat : Int) ≤ (90 : Int)) = decide (b.toNat ≤ 90) := dec_nat (b := 90)
  rw [e2]
  clear h1
  go_enter Tryz.func76, Tryz.ntmps76
  go_wp2_with fail
  go_ret
  exact ⟨rfl, rfl⟩
theorem gdig_any (b : UInt8) (w : World) : Calls Tryz.prog 120 #[.int .u8 (b.toNat : Int)] w fun e w' => e = .returned (.bool (digB b)) ∧ w = w' := by
 unfold digB
 rcases Nat.lt_or_ge b.toNat 48 with h1 | h1
 ·have e1 : decide ((48 : Int) ≤ (b.toNat : Int)) = false := decide_eq_false (by omega)
  have e2 : decide (48 ≤ b.toNat) = false := decide_eq_false (by omega)
  rw [e2]
  clear h1
  go_enter Tryz.func120, Tryz.ntmps120
  go_wp2_with fail
  go_ret
  exact ⟨rfl, rfl⟩
 ·have e1 : decide ((48 : Int) ≤ (b.toNat : Int)) = true := decide_eq_true (by omega)
  have e2 : decide (48 ≤ b.toNat) = true := decide_eq_true (by omega)
  have e3 : decide ((b.toNat : Int) ≤ (57 : Int)) = decide (b.toNat ≤ 57) := dec_nat (b := 57)
  rw [e2]
  clear h1
  go_enter Tryz.func120, Tryz.ntmps120
  go_wp2_with fail
  go_ret
  exact ⟨rfl, rfl⟩
theorem glet_any (b : UInt8) (w : World) : Calls Tryz.prog 119 #[.int .u8 (b.toNat : Int)] w fun e w' => e = .returned (.bool (letB b)) ∧ w = w' := by
 have hc := fun w => gcap_any b w
 unfold letB
 cases hq : capB b
 ·rw [hq] at hc
  have HC := Lib.hid hc
  clear hc hq
  rcases Nat.lt_or_ge b.toNat 97 with h1 | h1
  ·have e1 : decide ((97 : Int) ≤ (b.toNat : Int)) = false := decide_eq_false (by omega)
   have e2 : decide (97 ≤ b.toNat) = false := decide_eq_false (by omega)
   rw [e2]
   clear h1
   go_enter Tryz.func119, Tryz.ntmps119
   go_wp2_with (go_at_call 76; refine (HC.out _).mono ?_; rintro e w1 ⟨rfl, rfl⟩)
   go_ret
   exact ⟨rfl, rfl⟩
  ·have e1 : decide ((97 : Int) ≤ (b.toNat : Int)) = true := decide_eq_true (by omega)
   have e2 : decide (97 ≤ b.toNat) = true := decide_eq_true (by omega)
   have e3 : decide ((b.toNat : Int) ≤ (122 : Int)) = decide (b.toNat ≤ 122) := dec_nat (b := 122)
   rw [e2]
   clear h1
   go_enter Tryz.func119, Tryz.ntmps119
   go_wp2_with (go_at_call 76; refine (HC.out _).mono ?_; rintro e w1 ⟨rfl, rfl⟩)
   go_ret
   exact ⟨rfl, rfl⟩
 ·rw [hq] at hc
  have HC := Lib.hid hc
  clear hc hq
  go_enter Tryz.func119, Tryz.ntmps119
  go_wp2_with (go_at_call 76; refine (HC.out _).mono ?_; rintro e w1 ⟨rfl, rfl⟩)
  go_ret
  exact ⟨rfl, rfl⟩
theorem rlet_any (b : UInt8) (w : World) : Calls Tryz.prog 89 #[.int .u8 (b.toNat : Int)] w fun e w' => e = .returned (.bool (letB b)) ∧ w = w' := by
 obtain ⟨z, hz⟩ : ∃ z : Int, (b.toNat : Int) = z := ⟨_, rfl⟩
 have hv : letB b = ((decide (65 ≤ z) && decide (z ≤ 90)) || (decide (97 ≤ z) && decide (z ≤ 122))) := by
  unfold letB capB
  rw [← hz]
  congr 1 <;> congr 1 <;> exact dec_nat.symm
 rw [hv, hz]
 clear hv hz
 have R : ∀ {r : Bool}, ((decide (65 ≤ z) && decide (z ≤ 90)) || (decide (97 ≤ z) && decide (z ≤ 122))) = r → Calls Tryz.prog 89 #[.int .u8 z] w fun e w' => e = .returned (.bool r) ∧ w = w' := by
  intro r hr
  rcases (show z < 65 ∨ (65 ≤ z ∧ z ≤ 90) ∨ (90 < z ∧ z < 97) ∨ (97 ≤ z ∧ z ≤ 122) ∨ 122 < z from by omega) with h | h | h | h | h
  ·have d0 : decide (97 ≤ z) = false := decide_eq_false (by omega)
   have d1 : decide (65 ≤ z) = false := decide_eq_false (by omega)
   obtain rfl : r = false := by rw [← hr]; simp; omega
   clear hr h
   go_enter Tryz.func89, Tryz.ntmps89
   go_wp2_with fail
   go_ret
   exact ⟨rfl, rfl⟩
  ·have d0 : decide (97 ≤ z) = false := decide_eq_false (by omega)
   have d1 : decide (65 ≤ z) = true := decide_eq_true (by omega)
   have d2 : decide (z ≤ 90) = true := decide_eq_true (by omega)
   obtain rfl : r = true := by rw [← hr]; simp; omega
   clear hr h
   go_enter Tryz.func89, Tryz.ntmps89
   go_wp2_with fail
   go_ret
   exact ⟨rfl, rfl⟩
  ·have d0 : decide (97 ≤ z) = false := decide_eq_false (by omega)
   have d1 : decide (65 ≤ z) = true := decide_eq_true (by omega)
   have d2 : decide (z ≤ 90) = false := decide_eq_false (by omega)
   obtain rfl : r = false := by rw [← hr]; simp; omega
   clear hr h
   go_enter Tryz.func89, Tryz.ntmps89
   go_wp2_with fail
   go_ret
   exact ⟨rfl, rfl⟩
  ·have d0 : decide (97 ≤ z) = true := decide_eq_true (by omega)
   have d1 : decide (z ≤ 122) = true := decide_eq_true (by omega)
   obtain rfl : r = true := by rw [← hr]; simp; omega
   clear hr h
   go_enter Tryz.func89, Tryz.ntmps89
   go_wp2_with fail
   go_ret
   exact ⟨rfl, rfl⟩
  ·have d0 : decide (97 ≤ z) = true := decide_eq_true (by omega)
   have d1 : decide (z ≤ 122) = false := decide_eq_false (by omega)
   have d2 : decide (65 ≤ z) = true := decide_eq_true (by omega)
   have d3 : decide (z ≤ 90) = false := decide_eq_false (by omega)
   obtain rfl : r = false := by rw [← hr]; simp; omega
   clear hr h
   go_enter Tryz.func89, Tryz.ntmps89
   go_wp2_with fail
   go_ret
   exact ⟨rfl, rfl⟩
 exact R rfl
theorem gcur_any (s : ByteArray) (w : World) : Calls Tryz.prog 55 #[.string s] w fun e w' => e = .returned (.bool (curB s)) ∧ w = w' := by
 have hc := fun b w => gcap_any b w
 by_cases h3 : s.size = 3
 ·have e3 : ((s.size : Int) != 3) = false := by rw [h3]; rfl
  have HC := Lib.hid hc
  have H3 := Lib.hid h3
  have hnz : s.size ≤ 1000 := by omega
  clear hc h3
  go_enter Tryz.func55, Tryz.ntmps55
  go_wp2_with fail
  go_loop [9] (fun v => ∃ i : Nat, i ≤ s.size ∧ v = .int .i64 i ∧ Hid (∀ j, j < i → (h2 : j < s.size) → capB (s[j]'h2) = true)) (fun v => s.size - (intOf v).toNat)
  case atStart => exact ⟨0, by omega, rfl, fun j h => absurd h (by omega)⟩
  case round =>
   obtain ⟨i, hi, rfl, hd⟩ := hrel
   by_cases hlt : i < s.size
   ·have hlt' : (i : Int) < (s.size : Int) := by omega
    have hno := fun h => curB_no (s := s) hlt h
    obtain ⟨b, hb⟩ : ∃ b, s[i]'hlt = b := ⟨_, rfl⟩
    have hcb : ∀ h, s[i]'h = b := fun h => hb
    rw [hb] at hno
    have HB := Lib.hid hb
    have hcc := HC.out b
    clear hb
    cases hq : capB b
    ·have he := Lib.hid (hno hq)
     rw [hq] at hcc
     have HCC := Lib.hid hcc
     clear hno hcc hq
     go_wp2_with (go_at_call 76; refine (HCC.out _).mono ?_; rintro e w1 ⟨rfl, rfl⟩)
     go_ret
     exact ⟨by rw [he.out]; rfl, rfl⟩
    ·rw [hq] at hcc
     have HCC := Lib.hid hcc
     have hd2 : Hid (∀ j, j < i + 1 → (h2 : j < s.size) → capB (s[j]'h2) = true) := Lib.hid fun j hj h2 => by
      rcases Nat.lt_or_ge j i with h4 | h4
      ·exact hd.out j h4 h2
      ·obtain rfl : j = i := by omega
       rw [HB.out]; exact hq
     clear hno hcc hq hd
     go_wp2_with (go_at_call 76; refine (HCC.out _).mono ?_; rintro e w1 ⟨rfl, rfl⟩)
     go_round
     case measure => simp [intOf]; omega
     case rel => exact ⟨i + 1, by omega, by go_num, hd2⟩
   ·obtain rfl : i = s.size := by omega
    have hlt' : ¬ ((s.size : Int) < (s.size : Int)) := by omega
    have he : Hid (curB s = true) := Lib.hid (by unfold curB; rw [decide_eq_true H3.out, allC_yes fun j h2 => hd.out j (by omega) h2]; rfl)
    go_wp2_with fail
    go_ret
    exact ⟨by rw [he.out]; rfl, rfl⟩
 ·have e3 : ((s.size : Int) != 3) = true := by simp; omega
  have he : Hid (curB s = false) := Lib.hid (by unfold curB; rw [decide_eq_false h3]; rfl)
  clear hc h3
  go_enter Tryz.func55, Tryz.ntmps55
  go_wp2_with fail
  go_ret
  exact ⟨by rw [he.out]; rfl, rfl⟩
theorem nam_or (b : UInt8) : namB b = (letB b || (digB b || decide ((b.toNat : Int) = 45))) := by
 unfold namB
 congr 2
 by_cases h : b.toNat = 45
 ·rw [decide_eq_true h, decide_eq_true (by omega)]
 ·rw [decide_eq_false h, decide_eq_false (by omega)]
theorem gnam_any (s : ByteArray) (w : World) : Calls Tryz.prog 106 #[.string s] w fun e w' => e = .returned (.bool (nameB s)) ∧ w = w' := by
 have hc := fun b w => glet_any b w
 have hg := fun b w => gdig_any b w
 by_cases h0 : s.size = 0
 ·have e0 : ((s.size : Int) == 0) = true := by rw [h0]; rfl
  have he := Lib.hid (nameB_nil h0)
  clear hc hg h0
  go_enter Tryz.func106, Tryz.ntmps106
  go_wp2_with fail
  go_ret
  exact ⟨by rw [he.out]; rfl, rfl⟩
 have e0 : ((s.size : Int) == 0) = false := beq_eq_false_iff_ne.2 (by omega)
 by_cases h16 : 16 < s.size
 ·have e1 : decide ((16 : Int) < (s.size : Int)) = true := decide_eq_true (by omega)
  have he := Lib.hid (nameB_long h16)
  clear hc hg h0 h16
  go_enter Tryz.func106, Tryz.ntmps106
  go_wp2_with fail
  go_ret
  exact ⟨by rw [he.out]; rfl, rfl⟩
 have e1 : decide ((16 : Int) < (s.size : Int)) = false := decide_eq_false (by omega)
 have h0' : 0 < s.size := by omega
 have h0z : (0 : Int) < (s.size : Int) := by omega
 obtain ⟨f, hf⟩ : ∃ f, s[0]'h0' = f := ⟨_, rfl⟩
 have hfb : ∀ h, s[0]'h = f := fun h => hf
 have hff := hc f
 cases hl : letB f
 ·have he := Lib.hid (nameB_fr h0' (by rw [hf]; exact hl))
  rw [hl] at hff
  have HFF := Lib.hid hff
  clear hc hg hff hl h0 h16 hf
  go_enter Tryz.func106, Tryz.ntmps106
  go_wp2_with (go_at_call 119; refine (HFF.out _).mono ?_; rintro e w1 ⟨rfl, rfl⟩)
  go_ret
  exact ⟨by rw [he.out]; rfl, rfl⟩
 rw [hl] at hff
 have HFF := Lib.hid hff
 have HF := Lib.hid (show letB (s[0]'h0') = true by rw [hf]; exact hl)
 have HC := Lib.hid hc
 have HG := Lib.hid hg
 have H16 := Lib.hid h16
 have HEnd := Lib.hid (fun ha => nameB_yes h0' (show s.size ≤ 16 by omega) HF.out ha)
 clear hc hg hff hl h0 h16 hf
 have hsz : s.size ≤ 1000 := by have := H16.out; omega
 go_enter Tryz.func106, Tryz.ntmps106
 go_wp2_with (go_at_call 119; refine (HFF.out _).mono ?_; rintro e w1 ⟨rfl, rfl⟩)
 clear hfb
 go_loop [20] (fun v => ∃ i : Nat, i ≤ s.size ∧ v = .int .i64 i ∧ Hid (∀ j, j < i → (h2 : j < s.size) → namB (s[j]'h2) = true)) (fun v => s.size - (intOf v).toNat)
 case atStart => exact ⟨0, by omega, rfl, fun j h => absurd h (by omega)⟩
 case round =>
  obtain ⟨i, hi, rfl, hd⟩ := hrel
  by_cases hlt : i < s.size
  ·have hlt' : (i : Int) < (s.size : Int) := by omega
   have hno := fun h => nameB_no (s := s) hlt h
   obtain ⟨b, hb⟩ : ∃ b, s[i]'hlt = b := ⟨_, rfl⟩
   have hcb : ∀ h, s[i]'h = b := fun h => hb
   have hnx : namB b = true → Hid (∀ j, j < i + 1 → (h2 : j < s.size) → namB (s[j]'h2) = true) := fun hq => Lib.hid fun j hj h2 => by
    rcases Nat.lt_or_ge j i with h4 | h4
    ·exact hd.out j h4 h2
    ·obtain rfl : j = i := by omega
     rw [hb]; exact hq
   rw [hb, nam_or] at hno
   rw [nam_or] at hnx
   have hcc := HC.out b
   have hgg := HG.out b
   clear hb
   generalize letB b = q1 at *
   generalize digB b = q2 at *
   obtain ⟨q3, hq3⟩ : ∃ q3, decide ((b.toNat : Int) = 45) = q3 := ⟨_, rfl⟩
   have e3 : ((b.toNat : Int) != 45) = !q3 := by rw [← hq3]; by_cases h : (b.toNat : Int) = 45 <;> simp [h]
   rw [hq3] at hno hnx
   have HCC := Lib.hid hcc
   have HGG := Lib.hid hgg
   clear hcc hgg hq3
   rcases (show q1 = true ∨ (q1 = false ∧ q2 = true) ∨ (q1 = false ∧ q2 = false ∧ q3 = true) ∨ (q1 = false ∧ q2 = false ∧ q3 = false) from by cases q1 <;> cases q2 <;> cases q3 <;> simp) with rfl | ⟨rfl, rfl⟩ | ⟨rfl, rfl, rfl⟩ | ⟨rfl, rfl, rfl⟩
   ·have hd2 := hnx rfl
    clear hno hnx hd
    go_wp2_with (go_at_call 119; refine (HCC.out _).mono ?_; rintro e w1 ⟨rfl, rfl⟩)
    go_round
    case measure => simp [intOf]; omega
    case rel => exact ⟨i + 1, by omega, by go_num, hd2⟩
   ·have hd2 := hnx rfl
    clear hno hnx hd
    go_wp2_with (first | (go_at_call 119; refine (HCC.out _).mono ?_; rintro e w1 ⟨rfl, rfl⟩) | (go_at_call 120; refine (HGG.out _).mono ?_; rintro e w1 ⟨rfl, rfl⟩))
    go_round
    case measure => simp [intOf]; omega
    case rel => exact ⟨i + 1, by omega, by go_num, hd2⟩
   ·have hd2 := hnx rfl
    clear hno hnx hd
    go_wp2_with (first | (go_at_call 119; refine (HCC.out _).mono ?_; rintro e w1 ⟨rfl, rfl⟩) | (go_at_call 120; refine (HGG.out _).mono ?_; rintro e w1 ⟨rfl, rfl⟩))
    go_round
    case measure => simp [intOf]; omega
    case rel => exact ⟨i + 1, by omega, by go_num, hd2⟩
   ·have he := Lib.hid (hno rfl)
    clear hno hnx hd
    go_wp2_with (first | (go_at_call 119; refine (HCC.out _).mono ?_; rintro e w1 ⟨rfl, rfl⟩) | (go_at_call 120; refine (HGG.out _).mono ?_; rintro e w1 ⟨rfl, rfl⟩))
    go_ret
    exact ⟨by rw [he.out]; rfl, rfl⟩
  ·obtain rfl : i = s.size := by omega
   have hlt' : ¬ ((s.size : Int) < (s.size : Int)) := by omega
   have he := Lib.hid (HEnd.out fun j h2 => hd.out j (by omega) h2)
   go_wp2_with fail
   go_ret
   exact ⟨by rw [he.out]; rfl, rfl⟩
theorem rcur_any (s : ByteArray) (w : World) (hs : s.size ≤ maxLen) : Calls Tryz.prog 62 #[.string s] w fun e w' => e = .returned (.bool (curB s)) ∧ w = w' := by
 have hs2 : s.size ≤ 9223372036854775807 := hs
 clear hs
 go_enter Tryz.func62, Tryz.ntmps62
 go_wp2_with fail
 go_loop [3] (fun v => ∃ i : Nat, i ≤ s.size ∧ v = .int .i64 i ∧ Hid (∀ j, j < i → (h2 : j < s.size) → capB (s[j]'h2) = true)) (fun v => s.size - (intOf v).toNat)
 case atStart => exact ⟨0, by omega, rfl, fun j h => absurd h (by omega)⟩
 case round =>
  obtain ⟨i, hi, rfl, hd⟩ := hrel
  by_cases hlt : i < s.size
  ·have hlt' : (i : Int) < (s.size : Int) := by omega
   have hno := fun h => curB_no (s := s) hlt h
   obtain ⟨b, hb⟩ : ∃ b, s[i]'hlt = b := ⟨_, rfl⟩
   have hcb : ∀ h, s[i]'h = b := fun h => hb
   have hnx : capB b = true → Hid (∀ j, j < i + 1 → (h2 : j < s.size) → capB (s[j]'h2) = true) := fun hq => Lib.hid fun j hj h2 => by
    rcases Nat.lt_or_ge j i with h4 | h4
    ·exact hd.out j h4 h2
    ·obtain rfl : j = i := by omega
     rw [hb]; exact hq
   rw [hb] at hno
   have hv : capB b = (decide (65 ≤ b.toNat) && decide (b.toNat ≤ 90)) := rfl
   clear hb
   rcases Nat.lt_or_ge b.toNat 65 with h1 | h1
   ·have e1 : decide ((b.toNat : Int) < 65) = true := decide_eq_true (by omega)
    have he := Lib.hid (hno (by rw [hv, decide_eq_false (show ¬ 65 ≤ b.toNat by omega)]; rfl))
    clear hno hnx hv hd h1
    go_wp2_with fail
    go_ret
    exact ⟨by rw [he.out]; rfl, rfl⟩
   have e1 : decide ((b.toNat : Int) < 65) = false := decide_eq_false (by omega)
   rcases Nat.lt_or_ge 90 b.toNat with h2 | h2
   ·have e2 : decide ((90 : Int) < (b.toNat : Int)) = true := decide_eq_true (by omega)
    have he := Lib.hid (hno (by rw [hv, decide_eq_false (show ¬ b.toNat ≤ 90 by omega)]; simp))
    clear hno hnx hv hd h1 h2
    go_wp2_with fail
    go_ret
    exact ⟨by rw [he.out]; rfl, rfl⟩
   ·have e2 : decide ((90 : Int) < (b.toNat : Int)) = false := decide_eq_false (by omega)
    have hd2 := hnx (by rw [hv, decide_eq_true h1, decide_eq_true h2]; rfl)
    clear hno hnx hv hd h1 h2
    go_wp2_with fail
    go_round
    case measure => simp [intOf]; omega
    case rel => exact ⟨i + 1, by omega, by go_num, hd2⟩
  ·obtain rfl : i = s.size := by omega
   have hlt' : ¬ ((s.size : Int) < (s.size : Int)) := by omega
   have he : Hid (curB s = ((s.size : Int) == 3)) := Lib.hid (by
    unfold curB; rw [allC_yes fun j h2 => hd.out j (by omega) h2]
    by_cases h : s.size = 3
    ·rw [h]; rfl
    ·rw [decide_eq_false h]; symm; simp; omega)
   go_wp2_with fail
   go_ret
   exact ⟨by rw [he.out]; rfl, rfl⟩
set_option maxRecDepth 20000 in
theorem rnam_any (s : ByteArray) (w : World) (hs : s.size ≤ maxLen) : Calls Tryz.prog 68 #[.string s] w fun e w' => e = .returned (.bool (nameB s)) ∧ w = w' := by
 have hs2 : s.size ≤ 9223372036854775807 := hs
 have hc := fun b w => rlet_any b w
 have HC := Lib.hid hc
 clear hs hc
 go_enter Tryz.func68, Tryz.ntmps68
 go_wp2_with fail
 go_loop [3] (fun v => ∃ i : Nat, i ≤ s.size ∧ v = .int .i64 i ∧ Hid ((∀ j, j < i → (h2 : j < s.size) → namB (s[j]'h2) = true) ∧ ((h : 0 < s.size) → 0 < i → letB (s[0]'h) = true))) (fun v => s.size - (intOf v).toNat)
 case atStart => exact ⟨0, by omega, rfl, ⟨fun j h => absurd h (by omega), fun _ h => absurd h (by omega)⟩⟩
 case round =>
  obtain ⟨i, hi, rfl, hd⟩ := hrel
  by_cases hlt : i < s.size
  ·have hlt' : (i : Int) < (s.size : Int) := by omega
   have hno := fun h => nameB_no (s := s) hlt h
   have hs0 : 0 < s.size := by omega
   have hno0 := fun h => nameB_fr (s := s) hs0 h
   obtain ⟨b, hb⟩ : ∃ b, s[i]'hlt = b := ⟨_, rfl⟩
   have hcb : ∀ h, s[i]'h = b := fun h => hb
   have hnx : namB b = true → (i = 0 → letB b = true) → Hid ((∀ j, j < i + 1 → (h2 : j < s.size) → namB (s[j]'h2) = true) ∧ ((h : 0 < s.size) → 0 < i + 1 → letB (s[0]'h) = true)) := fun hq hq0 => Lib.hid ⟨fun j hj h2 => by
    rcases Nat.lt_or_ge j i with h4 | h4
    ·exact hd.out.1 j h4 h2
    ·obtain rfl : j = i := by omega
     rw [hb]; exact hq, fun h _ => by
    rcases Nat.eq_zero_or_pos i with h4 | h4
    ·subst h4
     rw [hb]; exact hq0 rfl
    ·exact hd.out.2 h h4⟩
   have hno1 : i = 0 → letB b = false → nameB s = false := fun h1 h2 => by subst h1; exact hno0 (by rw [hb]; exact h2)
   rw [hb, nam_or] at hno
   rw [nam_or] at hnx
   have hcc := HC.out b
   have hdg : digB b = (decide (48 ≤ b.toNat) && decide (b.toNat ≤ 57)) := rfl
   clear hb hno0 hs0
   generalize letB b = q1 at *
   generalize digB b = q2 at *
   obtain ⟨q3, hq3⟩ : ∃ q3, decide ((b.toNat : Int) = 45) = q3 := ⟨_, rfl⟩
   have e3 : ((b.toNat : Int) != 45) = !q3 := by rw [← hq3]; by_cases h : (b.toNat : Int) = 45 <;> simp [h]
   rw [hq3] at hno hnx
   have HCC := Lib.hid hcc
   clear hcc hq3
   cases q1
   case true =>
    have hd2 := hnx rfl (fun _ => rfl)
    clear hno hnx hd hno1 hdg
    go_wp2_with (go_at_call 89; refine (HCC.out _).mono ?_; rintro e w1 ⟨rfl, rfl⟩)
    go_round
    case measure => simp [intOf]; omega
    case rel => exact ⟨i + 1, by omega, by go_num, hd2⟩
   by_cases hi0 : i = 0
   ·have he := Lib.hid (hno1 hi0 rfl)
    have ei : ((i : Int) == 0) = true := by simp; omega
    clear hno hnx hd hno1 hdg hi0
    go_wp2_with (go_at_call 89; refine (HCC.out _).mono ?_; rintro e w1 ⟨rfl, rfl⟩)
    go_ret
    exact ⟨by rw [he.out]; rfl, rfl⟩
   have ei : ((i : Int) == 0) = false := by simp; omega
   have hnx2 := fun h => hnx h (fun h0 => absurd h0 hi0)
   clear hi0 hno1 hnx
   cases q3
   case true =>
    have hd2 := hnx2 (by cases q2 <;> rfl)
    clear hno hnx2 hd hdg
    go_wp2_with (go_at_call 89; refine (HCC.out _).mono ?_; rintro e w1 ⟨rfl, rfl⟩)
    go_round
    case measure => simp [intOf]; omega
    case rel => exact ⟨i + 1, by omega, by go_num, hd2⟩
   rcases Nat.lt_or_ge b.toNat 48 with h1 | h1
   ·have e1 : decide ((b.toNat : Int) < 48) = true := decide_eq_true (by omega)
    have he := Lib.hid (hno (by rw [hdg, decide_eq_false (show ¬ 48 ≤ b.toNat by omega)]; rfl))
    clear hno hnx2 hdg hd h1
    go_wp2_with (go_at_call 89; refine (HCC.out _).mono ?_; rintro e w1 ⟨rfl, rfl⟩)
    go_ret
    exact ⟨by rw [he.out]; rfl, rfl⟩
   have e1 : decide ((b.toNat : Int) < 48) = false := decide_eq_false (by omega)
   rcases Nat.lt_or_ge 57 b.toNat with h2 | h2
   ·have e2 : decide ((57 : Int) < (b.toNat : Int)) = true := decide_eq_true (by omega)
    have he := Lib.hid (hno (by rw [hdg, decide_eq_false (show ¬ b.toNat ≤ 57 by omega)]; simp))
    clear hno hnx2 hdg hd h1 h2
    go_wp2_with (go_at_call 89; refine (HCC.out _).mono ?_; rintro e w1 ⟨rfl, rfl⟩)
    go_ret
    exact ⟨by rw [he.out]; rfl, rfl⟩
   ·have e2 : decide ((57 : Int) < (b.toNat : Int)) = false := decide_eq_false (by omega)
    have hd2 := hnx2 (by rw [hdg, decide_eq_true h1, decide_eq_true h2]; rfl)
    clear hno hnx2 hdg hd h1 h2
    go_wp2_with (go_at_call 89; refine (HCC.out _).mono ?_; rintro e w1 ⟨rfl, rfl⟩)
    go_round
    case measure => simp [intOf]; omega
    case rel => exact ⟨i + 1, by omega, by go_num, hd2⟩
  ·obtain rfl : i = s.size := by omega
   have hlt' : ¬ ((s.size : Int) < (s.size : Int)) := by omega
   have hv : nameB s = (decide (s.size ≤ 16) && (frsB s && allC namB s)) := rfl
   rw [allC_yes fun j h2 => hd.out.1 j (by omega) h2] at hv
   have hf : 0 < s.size → frsB s = true := fun h => by unfold frsB; rw [dif_pos h]; exact hd.out.2 h h
   have hf0 : ¬ 0 < s.size → frsB s = false := fun h => by unfold frsB; rw [dif_neg h]
   clear hd
   by_cases h0 : 0 < s.size
   ·rw [hf h0] at hv
    have e1 : decide ((1 : Int) ≤ (s.size : Int)) = true := decide_eq_true (by omega)
    have he : Hid (nameB s = decide ((s.size : Int) ≤ 16)) := Lib.hid (by rw [hv]; by_cases h : s.size ≤ 16 <;> simp [h] <;> omega)
    clear hv hf hf0 h0
    go_wp2_with fail
    go_ret
    exact ⟨by rw [he.out]; rfl, rfl⟩
   ·rw [hf0 h0] at hv
    have e1 : decide ((1 : Int) ≤ (s.size : Int)) = false := decide_eq_false (by omega)
    have he : Hid (nameB s = false) := Lib.hid (by rw [hv]; simp)
    clear hv hf hf0 h0
    go_wp2_with fail
    go_ret
    exact ⟨by rw [he.out]; rfl, rfl⟩
theorem mvB_no1 {L : List Acc} {K : List Lnk} {c : List Acc} (h : vB c true = false) : mvB L K c = false := by unfold mvB; rw [h]; rfl
theorem mvB_no2 {L : List Acc} {K : List Lnk} {c : List Acc} (h : vB L false = false) : mvB L K c = false := by unfold mvB; rw [h]; simp
theorem mvB_no3 {L : List Acc} {K : List Lnk} {c : List Acc} (h : 400 < K.length) : mvB L K c = false := by unfold mvB; rw [decide_eq_false (show ¬ K.length ≤ 400 by omega)]; simp
theorem mvB_no4 {L : List Acc} {K : List Lnk} {c : List Acc} {k : Nat} (hk : k < K.length) (h : lnkB L c (K.getD k lnk0) = false) : mvB L K c = false := by
 unfold mvB; rw [allTo_no (p := fun i => lnkB L c (K.getD i lnk0)) hk h]; simp
theorem mvB_end {L : List Acc} {K : List Lnk} {c : List Acc} (h1 : vB c true = true) (h2 : vB L false = true) (h3 : K.length ≤ 400) (h4 : allTo (fun i => lnkB L c (K.getD i lnk0)) K.length = true) : mvB L K c = allTo (dfB K) K.length := by
 unfold mvB; rw [h1, h2, decide_eq_true h3, h4]; rfl
set_option maxRecDepth 20000 in
set_option maxHeartbeats 3200000 in
theorem cval9_any (nm cur : ByteArray) (A : Option Addr) (cp : Nat) (L : List Acc) (B : Option Addr) (d : Nat) (K : List Lnk) (jt : Bool) (C : Option Addr) (cc : Nat) (c : List Acc) (w : World) (hz : AccAt w A L) (hy : LnkAt w B K) (hx : AccAt w C c) (hl : L.length ≤ 1000) (hm : K.length ≤ 1000) (hc : c.length ≤ 1000) (hw : ∀ l ∈ K, WfL l) :
  Calls Tryz.prog 107 #[entV nm cur A L.length cp B K.length d jt, .slice C c.length cc] w fun e w' => e = .returned (.bool (mvB L K c)) ∧ Below w.heap.size w w' := by
 have hn := eb_new w 82 nm cur A L.length cp B K.length d jt
 have hB := below_alloc_new (w := w) (.cells #[.string nm, .string cur, .slice A L.length cp, .slice B K.length d, .bool jt] 82)
 have HEB := Lib.hid hn
 have HZ := Lib.hid (hz.up hB)
 have HY := Lib.hid (hy.up hB)
 have HX := Lib.hid (hx.up hB)
 have h1 := fun w h => cvalid8_any C cc c true w h hc
 have h2 := fun w h => cvalid8_any A cp L false w h hl
 have h3 := fun l w h h' => clnk_any l A C cp cc L c w h h' hl hc
 have h4 := fun w h => cdist_any B d K w h hm hw
 have N1 := mvB_no1 (L := L) (K := K) (c := c)
 have N2 := mvB_no2 (L := L) (K := K) (c := c)
 have N3 := mvB_no3 (L := L) (K := K) (c := c)
 have N4 := fun k => mvB_no4 (L := L) (K := K) (c := c) (k := k)
 have NE := mvB_end (L := L) (K := K) (c := c)
 obtain ⟨r, hr⟩ : ∃ r, mvB L K c = r := ⟨_, rfl⟩
 rw [hr] at N1 N2 N3 NE ⊢
 simp only [hr] at N4
 obtain ⟨P, hP⟩ : ∃ P : Nat → Bool, (fun i => lnkB L c (K.getD i lnk0)) = P := ⟨_, rfl⟩
 have hPk : ∀ k, lnkB L c (K.getD k lnk0) = P k := fun k => by rw [← hP]
 rw [hP] at NE
 simp only [hPk] at N4
 obtain ⟨q, hq⟩ : ∃ q, allTo (dfB K) K.length = q := ⟨_, rfl⟩
 rw [hq] at h4 NE
 obtain ⟨b1, hb1⟩ : ∃ b, vB c true = b := ⟨_, rfl⟩
 rw [hb1] at h1 N1 NE
 obtain ⟨b2, hb2⟩ : ∃ b, vB L false = b := ⟨_, rfl⟩
 rw [hb2] at h2 N2 NE
 obtain ⟨n, hn2⟩ : ∃ n, L.length = n := ⟨_, rfl⟩
 obtain ⟨k0, hk0⟩ : ∃ k0, c.length = k0 := ⟨_, rfl⟩
 obtain ⟨m, hm2⟩ : ∃ m, K.length = m := ⟨_, rfl⟩
 obtain ⟨s0, hs0⟩ : ∃ s0, w.heap.size = s0 := ⟨_, rfl⟩
 rw [hn2, hm2] at HEB HZ HY HX hB
 rw [hn2] at h2 h3
 rw [hk0] at h1 h3
 rw [hm2] at h4 N3 N4 NE hm
 rw [hn2, hm2, hk0]
 have HN1 := Lib.hid N1
 have HN2 := Lib.hid N2
 have HN3 := Lib.hid N3
 have HN4 := Lib.hid N4
 have HNE := Lib.hid NE
 have HP := Lib.hid hPk
 have HM := Lib.hid hm2
 have H1 := Lib.hid h1
 have H2 := Lib.hid h2
 have H3 := Lib.hid h3
 have H4 := Lib.hid h4
 have HS0 := Lib.hid hs0
 have HE0 := HEB
 rw [hs0] at hB HEB
 obtain ⟨c0, c1, c2, c3, c4, lt⟩ := HE0.out
 clear hn hz hy hx h1 h2 h3 h4 N1 N2 N3 N4 NE hr hP hPk hq hb1 hb2 hn2 hk0 hm2 hs0 hw hl hc HE0
 cases b1
 ·have HR := Lib.hid (HN1.out rfl)
  clear HN1 HN2 HN3 HN4 HNE
  go_enter Tryz.func107, Tryz.ntmps107
  go_wp2_with (go_at_call 80; first
   | ((with_reducible refine (H1.out _ HX.out).mono ?_); rintro e w1 ⟨rfl, hb⟩; replace hB := hB.trans (hb.mono (by have := hB.size; have := HS0.out; omega)); clear hb))
  go_ret
  exact ⟨by rw [HR.out]; rfl, by rw [HS0.out]; exact hB⟩
 have hv1 : ∀ (w1 : World), Below (w.alloc (.cells #[.string nm, .string cur, .slice A n cp, .slice B m d, .bool jt] 82)).heap.size (w.alloc (.cells #[.string nm, .string cur, .slice A n cp, .slice B m d, .bool jt] 82)) w1 → Hid (EB w1 s0 nm cur A n cp B m d jt) ∧ Hid (AccAt w1 A L) ∧ Hid (LnkAt w1 B K) ∧ Hid (AccAt w1 C c) ∧ Below s0 w w1 := fun w1 hb =>
  ⟨Lib.hid (HEB.out.up hb), Lib.hid (HZ.out.up hb), Lib.hid (HY.out.up hb), Lib.hid (HX.out.up hb), hB.trans (hb.mono (by have := hB.size; have := HS0.out; omega))⟩
 have HV1 := Lib.hid hv1
 clear hv1
 cases b2
 ·have HR := Lib.hid (HN2.out rfl)
  clear HN1 HN2 HN3 HN4 HNE
  go_enter Tryz.func107, Tryz.ntmps107
  go_wp2_with (go_at_call 80; first
   | ((with_reducible refine (H1.out _ HX.out).mono ?_); rintro e w1 ⟨rfl, hb⟩; obtain ⟨HEB, HZ, HY, HX, hB⟩ := HV1.out w1 hb; clear hb HV1 c0 c1 c2 c3 c4 lt; obtain ⟨c0, c1, c2, c3, c4, lt⟩ := HEB.out; rw [← HS0.out] at c0 c1 c2 c3 c4 lt)
   | ((with_reducible refine (H2.out _ HZ.out).mono ?_); rintro e w2 ⟨rfl, hb⟩; replace hB := hB.trans (hb.mono (by have := hB.size; have := HS0.out; omega)); clear hb))
  go_ret
  exact ⟨by rw [HR.out]; rfl, by rw [HS0.out]; exact hB⟩
 rcases Nat.lt_or_ge 400 m with hm4 | hm4
 ·have HR := Lib.hid (HN3.out hm4)
  have e4 : decide ((400 : Int) < (m : Int)) = true := decide_eq_true (by omega)
  clear HN1 HN2 HN3 HN4 HNE hm4
  go_enter Tryz.func107, Tryz.ntmps107
  go_wp2_with (go_at_call 80; first
   | ((with_reducible refine (H1.out _ HX.out).mono ?_); rintro e w1 ⟨rfl, hb⟩; obtain ⟨HEB, HZ, HY, HX, hB⟩ := HV1.out w1 hb; clear hb HV1 c0 c1 c2 c3 c4 lt; obtain ⟨c0, c1, c2, c3, c4, lt⟩ := HEB.out; rw [← HS0.out] at c0 c1 c2 c3 c4 lt)
   | ((with_reducible refine (H2.out _ HZ.out).mono ?_); rintro e w2 ⟨rfl, hb⟩; replace HEB := Lib.hid (HEB.out.up hb); replace hB := hB.trans (hb.mono (by have := hB.size; have := HS0.out; omega)); clear hb c0 c1 c2 c3 c4 lt; obtain ⟨c0, c1, c2, c3, c4, lt⟩ := HEB.out; rw [← HS0.out] at c0 c1 c2 c3 c4 lt))
  go_ret
  exact ⟨by rw [HR.out]; rfl, by rw [HS0.out]; exact hB⟩
 have e4 : decide ((400 : Int) < (m : Int)) = false := decide_eq_false (by omega)
 have HNE2 := Lib.hid (HNE.out rfl rfl hm4)
 clear HN1 HN2 HN3 HNE hm4
 go_enter Tryz.func107, Tryz.ntmps107
 go_wp2_with (go_at_call 80; first
  | ((with_reducible refine (H1.out _ HX.out).mono ?_); rintro e w1 ⟨rfl, hb⟩; obtain ⟨HEB, HZ, HY, HX, hB⟩ := HV1.out w1 hb; clear hb HV1 c0 c1 c2 c3 c4 lt; obtain ⟨c0, c1, c2, c3, c4, lt⟩ := HEB.out; rw [← HS0.out] at c0 c1 c2 c3 c4 lt)
  | ((with_reducible refine (H2.out _ HZ.out).mono ?_); rintro e w2 ⟨rfl, hb⟩; replace HEB := Lib.hid (HEB.out.up hb); replace HZ := Lib.hid (HZ.out.up hb); replace HY := Lib.hid (HY.out.up hb); replace HX := Lib.hid (HX.out.up hb); replace hB := hB.trans (hb.mono (by have := hB.size; have := HS0.out; omega)); clear hb c0 c1 c2 c3 c4 lt; obtain ⟨c0, c1, c2, c3, c4, lt⟩ := HEB.out; rw [← HS0.out] at c0 c1 c2 c3 c4 lt))
 clear c0 c1 c2 c3 c4 lt
 go_loopg [25] m (fun kx s25 wr => ∃ k : Nat, s25 = .int .i64 k ∧ k ≤ m ∧ m - k ≤ kx ∧ Hid (allTo P k = true) ∧ Hid (EB wr s0 nm cur A n cp B m d jt) ∧ Hid (AccAt wr A L) ∧ Hid (LnkAt wr B K) ∧ Hid (AccAt wr C c) ∧ Below s0 w wr)
 case atStart => exact ⟨0, rfl, by omega, by omega, Lib.hid rfl, HEB, HZ, HY, HX, hB⟩
 case round =>
  clear HEB HZ HY HX hB
  clear HEB HZ HY HX hB
  obtain ⟨k, rfl, hk, hkx, HA, HEB, HZ, HY, HX, hB⟩ := hrel
  have hsz : s0 ≤ wr.heap.size := by have := hB.size; have := HS0.out; omega
  by_cases hlt : k < m
  ·have hltz : (k : Int) < (m : Int) := by omega
   obtain ⟨b, off, rfl, hbw, hcs⟩ := HY.out (by rw [HM.out]; omega)
   obtain ⟨d0, d1, d2⟩ := hcs k (by rw [HM.out]; exact hlt)
   have hpk := HP.out k
   obtain ⟨x, hx⟩ : ∃ x, K.getD k lnk0 = x := ⟨_, rfl⟩
   rw [hx] at d0 d1 d2 hpk
   have hno := HN4.out k hlt
   have h3 := H3.out x
   rw [hpk] at h3
   have hW := below_alloc_new (w := wr) (.cells #[.int .i64 x.frm, .int .i64 x.tgt, .int .i64 x.since] 101)
   have HEB1 := Lib.hid (HEB.out.up hW)
   have HZ1 := Lib.hid (HZ.out.up hW)
   have HY1 := Lib.hid (HY.out.up hW)
   have HX1 := Lib.hid (HX.out.up hW)
   have hB1 : Below s0 w (wr.alloc (.cells #[.int .i64 x.frm, .int .i64 x.tgt, .int .i64 x.since] 101)) := hB.alloc hsz _
   have hs1 : s0 ≤ (wr.alloc (.cells #[.int .i64 x.frm, .int .i64 x.tgt, .int .i64 x.since] 101)).heap.size := by simp; omega
   obtain ⟨⟨v0, v1, v2⟩, vlt⟩ := lb_new wr 101 x
   simp only [Nat.zero_add] at v1 v2
   obtain ⟨c0, c1, c2, c3, c4, lt⟩ := HEB1.out
   rw [← HS0.out] at c0 c1 c2 c3 c4 lt
   have HS1 := Lib.hid hs1
   cases hpq : P k
   ·rw [hpq] at h3
    have HR := Lib.hid (hno hpq)
    have H3x := Lib.hid h3
    clear hpk hno h3 hpq hx hcs hW hs1
    go_wp2_with (go_at_call 121; (with_reducible refine (H3x.out _ HZ1.out HX1.out).mono ?_); rintro e w3 ⟨rfl, hb⟩; replace hB := hB1.trans (hb.mono HS1.out); clear hb)
    go_ret
    exact ⟨by rw [HR.out]; rfl, by rw [HS0.out]; exact hB⟩
   ·rw [hpq] at h3
    have HA2 : Hid (allTo P (k + 1) = true) := Lib.hid (by show (allTo P k && P k) = true; rw [HA.out, hpq]; rfl)
    have H3x := Lib.hid h3
    clear hpk hno h3 hpq hx hcs hW hs1
    go_wp2_with (go_at_call 121; (with_reducible refine (H3x.out _ HZ1.out HX1.out).mono ?_); rintro e w3 ⟨rfl, hb⟩; replace hB := hB1.trans (hb.mono HS1.out); replace HEB := Lib.hid (HEB1.out.up hb); replace HZ := Lib.hid (HZ1.out.up hb); replace HY := Lib.hid (HY1.out.up hb); replace HX := Lib.hid (HX1.out.up hb); clear hb)
    go_roundg (m - (k + 1))
    case measure => omega
    case rel => exact ⟨k + 1, by go_num, by omega, by omega, HA2, HEB, HZ, HY, HX, hB⟩
  ·obtain rfl : k = m := by omega
   have hltz : ¬ (k : Int) < (k : Int) := by omega
   have HR := Lib.hid (HNE2.out HA.out)
   obtain ⟨c0, c1, c2, c3, c4, lt⟩ := HEB.out
   rw [← HS0.out] at c0 c1 c2 c3 c4 lt
   go_wp2_with (go_at_call 122; (with_reducible refine (H4.out _ HY.out).mono ?_); rintro e w3 ⟨rfl, hb⟩; replace hB := hB.trans (hb.mono hsz); clear hb)
   go_ret
   exact ⟨by rw [HR.out]; rfl, by rw [HS0.out]; exact hB⟩
def enpB (L : List Acc) (R : List Int) (e : Ent) : Bool := nameB e.nm && (curB e.cur && (mvB e.L e.K L && allTo (fun i => opnP R (e.K.getD i lnk0).tgt) e.K.length))
set_option maxRecDepth 20000 in
set_option maxHeartbeats 3200000 in
theorem gent_any (g : Grp) (L : List Acc) (e : Ent) (w : World) (hz : AccAt w g.A L) (ln : L.length = g.n) (hl : g.n ≤ 1000) (he : EntK w e.A e.n e.L e.B e.m e.K) (hn : e.n ≤ 1000) (hm : e.m ≤ 1000) :
  Calls Tryz.prog 84 #[grpV g, eV e] w fun e' w' => e' = .returned (.bool (enpB L g.R e)) ∧ Below w.heap.size w w' := by
 have hB1 := below_alloc_new (w := w) (.cells #[.string g.cur, .int .i64 g.cy, .int .i64 g.cm, .int .i64 g.cp, .slice g.A g.n g.c, .int .i64 g.r0, .int .i64 g.r1, .int .i64 g.r2, .int .i64 g.r3, .int .i64 g.r4, .int .i64 g.r5, .int .i64 g.r6, .int .i64 g.r7, .int .i64 g.r8, .int .i64 g.r9, .int .i64 g.r10, .int .i64 g.r11, .int .i64 g.r12, .int .i64 g.r13, .int .i64 g.r14, .slice g.E g.m g.d] 29)
 have hB := below_new hB1 (.cells #[.string e.nm, .string e.cur, .slice e.A e.n e.c, .slice e.B e.m e.d, .bool e.jt] 82)
 have hG := (gb_new w 29 g).up (below_alloc_new (.cells #[.string e.nm, .string e.cur, .slice e.A e.n e.c, .slice e.B e.m e.d, .bool e.jt] 82))
 have hE := eb_new (w.alloc (.cells #[.string g.cur, .int .i64 g.cy, .int .i64 g.cm, .int .i64 g.cp, .slice g.A g.n g.c, .int .i64 g.r0, .int .i64 g.r1, .int .i64 g.r2, .int .i64 g.r3, .int .i64 g.r4, .int .i64 g.r5, .int .i64 g.r6, .int .i64 g.r7, .int .i64 g.r8, .int .i64 g.r9, .int .i64 g.r10, .int .i64 g.r11, .int .i64 g.r12, .int .i64 g.r13, .int .i64 g.r14, .slice g.E g.m g.d] 29)) 82 e.nm e.cur e.A e.n e.c e.B e.m e.d e.jt
 have e1 : (w.alloc (.cells #[.string g.cur, .int .i64 g.cy, .int .i64 g.cm, .int .i64 g.cp, .slice g.A g.n g.c, .int .i64 g.r0, .int .i64 g.r1, .int .i64 g.r2, .int .i64 g.r3, .int .i64 g.r4, .int .i64 g.r5, .int .i64 g.r6, .int .i64 g.r7, .int .i64 g.r8, .int .i64 g.r9, .int .i64 g.r10, .int .i64 g.r11, .int .i64 g.r12, .int .i64 g.r13, .int .i64 g.r14, .slice g.E g.m g.d] 29)).heap.size = w.heap.size + 1 := by simp
 rw [e1] at hE
 have h1 := fun w => gnam_any e.nm w
 have h2 := fun w => gcur_any e.cur w
 have h3 : ∀ w, EntK w e.A e.n e.L e.B e.m e.K → AccAt w g.A L → Calls Tryz.prog 107 #[eV e, .slice g.A g.n g.c] w fun e' w' => e' = .returned (.bool (mvB e.L e.K L)) ∧ Below w.heap.size w w' := fun w h h' => by
  have h9 := cval9_any e.nm e.cur e.A e.c e.L e.B e.d e.K e.jt g.A g.c L w h.hz h.hy h' (by have := h.ln; omega) (by have := h.lm; omega) (by omega) h.wl
  rw [h.ln, h.lm, ln] at h9
  exact h9
 have h4 := fun x w => gopen_any g x w
 have hv : enpB L g.R e = (nameB e.nm && (curB e.cur && (mvB e.L e.K L && allTo (fun i => opnP g.R (e.K.getD i lnk0).tgt) e.K.length))) := rfl
 rw [he.lm] at hv
 obtain ⟨X, hX⟩ : ∃ X : Value, X = grpV g := ⟨_, rfl⟩
 rw [← hX] at h4
 generalize enpB L g.R e = r at *
 generalize nameB e.nm = q1 at *
 generalize curB e.cur = q2 at *
 generalize mvB e.L e.K L = q3 at *
 obtain ⟨s0, hs0⟩ : ∃ s0, w.heap.size = s0 := ⟨_, rfl⟩
 have hs1 : s0 ≤ ((w.alloc (.cells #[.string g.cur, .int .i64 g.cy, .int .i64 g.cm, .int .i64 g.cp, .slice g.A g.n g.c, .int .i64 g.r0, .int .i64 g.r1, .int .i64 g.r2, .int .i64 g.r3, .int .i64 g.r4, .int .i64 g.r5, .int .i64 g.r6, .int .i64 g.r7, .int .i64 g.r8, .int .i64 g.r9, .int .i64 g.r10, .int .i64 g.r11, .int .i64 g.r12, .int .i64 g.r13, .int .i64 g.r14, .slice g.E g.m g.d] 29)).alloc (.cells #[.string e.nm, .string e.cur, .slice e.A e.n e.c, .slice e.B e.m e.d, .bool e.jt] 82)).heap.size := by simp; omega
 have hek : EntK ((w.alloc (.cells #[.string g.cur, .int .i64 g.cy, .int .i64 g.cm, .int .i64 g.cp, .slice g.A g.n g.c, .int .i64 g.r0, .int .i64 g.r1, .int .i64 g.r2, .int .i64 g.r3, .int .i64 g.r4, .int .i64 g.r5, .int .i64 g.r6, .int .i64 g.r7, .int .i64 g.r8, .int .i64 g.r9, .int .i64 g.r10, .int .i64 g.r11, .int .i64 g.r12, .int .i64 g.r13, .int .i64 g.r14, .slice g.E g.m g.d] 29)).alloc (.cells #[.string e.nm, .string e.cur, .slice e.A e.n e.c, .slice e.B e.m e.d, .bool e.jt] 82)) e.A e.n e.L e.B e.m e.K := he.up hB
 have hz2 := hz.up hB
 rw [hs0] at hB hG hE ⊢
 have HS0 := Lib.hid hs0
 have HG := Lib.hid hG
 have HX := Lib.hid hX
 have HNM := Lib.hid h1
 have HCU := Lib.hid h2
 have HMV := Lib.hid h3
 have HOP := Lib.hid h4
 have HS1 := Lib.hid hs1
 have HEK := Lib.hid hek
 have HZ := Lib.hid hz2
 have HY := Lib.hid he.hy
 have HLM := Lib.hid he.lm
 have HV := Lib.hid hv
 have d4 := hG.c4
 obtain ⟨c0, c1, c2, c3, c4, lt⟩ := hE
 clear hz hz2 ln hl he hn hB1 hG e1 h1 h2 h3 h4 hv hX hs1 hek
 cases q1
 ·have HR := Lib.hid (show r = false from HV.out)
  clear HV
  go_enter Tryz.func84, Tryz.ntmps84
  go_wp2_with (first | (go_at_call 106; refine (HNM.out _).mono ?_; rintro e1 w1 ⟨rfl, rfl⟩))
  go_ret
  exact ⟨by rw [HR.out]; rfl, hB⟩
 cases q2
 ·have HR := Lib.hid (show r = false from HV.out)
  clear HV
  go_enter Tryz.func84, Tryz.ntmps84
  go_wp2_with (first | (go_at_call 106; refine (HNM.out _).mono ?_; rintro e1 w1 ⟨rfl, rfl⟩) | (go_at_call 55; refine (HCU.out _).mono ?_; rintro e1 w1 ⟨rfl, rfl⟩))
  go_ret
  exact ⟨by rw [HR.out]; rfl, hB⟩
 have c3' := c3
 have lt2 := lt
 cases q3
 ·have HR := Lib.hid (show r = false from HV.out)
  clear HV
  go_enter Tryz.func84, Tryz.ntmps84
  go_wp2_with (first | (go_at_call 106; refine (HNM.out _).mono ?_; rintro e1 w1 ⟨rfl, rfl⟩) | (go_at_call 55; refine (HCU.out _).mono ?_; rintro e1 w1 ⟨rfl, rfl⟩) | (go_at_call 107; (with_reducible refine (HMV.out _ HEK.out HZ.out).mono ?_); rintro e1 w1 ⟨rfl, hb⟩; have hB2 := hB.trans (hb.mono HS1.out); have HG2 := Lib.hid (HG.out.up hb); clear hb hB HG c0 c1 c2 c3 c4 lt d4))
  go_ret
  exact ⟨by rw [HR.out]; rfl, hB2⟩
 have HE := Lib.hid (EB.mk c0 c1 c2 c3 c4 lt)
 obtain ⟨P, hP⟩ : ∃ P : Nat → Bool, (fun i => opnP g.R (e.K.getD i lnk0).tgt) = P := ⟨_, rfl⟩
 have hv2 := HV.out
 rw [hP] at hv2
 have HV2 := Lib.hid (show r = allTo P e.m from hv2)
 have HP := Lib.hid (fun i => show opnP g.R (e.K.getD i lnk0).tgt = P i from by rw [← hP])
 clear HV hP hv2 c3' lt2
 go_enter Tryz.func84, Tryz.ntmps84
 go_wp2_with (first | (go_at_call 106; refine (HNM.out _).mono ?_; rintro e1 w1 ⟨rfl, rfl⟩) | (go_at_call 55; refine (HCU.out _).mono ?_; rintro e1 w1 ⟨rfl, rfl⟩) | (go_at_call 107; (with_reducible refine (HMV.out _ HEK.out HZ.out).mono ?_); rintro e1 w1 ⟨rfl, hb⟩; have hB2 := hB.trans (hb.mono HS1.out); have HG2 := Lib.hid (HG.out.up hb); have HE2 := HE.out.up hb; clear hb hB HG HE c0 c1 c2 c3 c4 lt d4; obtain ⟨c0, c1, c2, c3, c4, lt⟩ := HE2))
 clear hs0 HNM HCU HMV HEK HZ HS1 c0 c1 c2 c3 c4 lt
 obtain ⟨n, hn2⟩ : ∃ n, e.m = n := ⟨_, rfl⟩
 obtain ⟨B, hB9⟩ : ∃ B, e.B = B := ⟨_, rfl⟩
 rw [hn2] at hm HLM HV2 ⊢
 rw [hB9] at HY ⊢
 clear hn2 hB9
 go_loopg [27] n (fun kx s27 wr => ∃ k : Nat, s27 = .int .i64 k ∧ k ≤ n ∧ n - k ≤ kx ∧ Hid (allTo P k = true) ∧ Hid (GB wr s0 g) ∧ Below s0 w wr)
 case atStart => exact ⟨0, rfl, by omega, by omega, Lib.hid rfl, HG2, hB2⟩
 case round =>
  clear hB2 HG2
  obtain ⟨k, rfl, hk, hkx, HA, HG, hB⟩ := hrel
  by_cases hlt : k < n
  ·have hltz : (k : Int) < (n : Int) := by omega
   have hsz : s0 ≤ wr.heap.size := by have := HG.out.lt; omega
   obtain ⟨b, off, rfl, hbw, hcs⟩ := HY.out (by rw [HLM.out]; omega)
   obtain ⟨d0, d1, d2⟩ := (hcs k (by rw [HLM.out]; exact hlt)).up hB (by have := HS0.out; omega)
   have hp := HP.out k
   have hno : P k = false → r = false := fun h => by rw [HV2.out]; exact allTo_no hlt h
   have hnx : P k = true → Hid (allTo P (k + 1) = true) := fun h => Lib.hid (by show (allTo P k && P k) = true; rw [HA.out, h]; rfl)
   obtain ⟨x, hx⟩ : ∃ x, e.K.getD k lnk0 = x := ⟨_, rfl⟩
   rw [hx] at d0 d1 d2 hp
   have hox := fun w => HOP.out x.tgt w
   rw [hp] at hox
   generalize P k = q at *
   have hl1 := lb_new wr 101 x
   have HB1 : Hid (Below s0 w (wr.alloc (.cells #[.int .i64 x.frm, .int .i64 x.tgt, .int .i64 x.since] 101))) := Lib.hid (hB.alloc hsz _)
   have HSZ1 : Hid (s0 ≤ (wr.alloc (.cells #[.int .i64 x.frm, .int .i64 x.tgt, .int .i64 x.since] 101)).heap.size) := Lib.hid (by simp; omega)
   have HG1 := Lib.hid (HG.out.up (below_alloc_new (.cells #[.int .i64 x.frm, .int .i64 x.tgt, .int .i64 x.since] 101)))
   obtain ⟨⟨v0, v1, v2⟩, vlt⟩ := hl1
   simp only [Nat.zero_add] at v1 v2
   have HOx := Lib.hid hox
   clear hcs hx hp hox HA HG hB
   cases q
   ·have HR := Lib.hid (hno rfl)
    clear hno hnx
    go_wp2_with (first
     | (refine wpList_load_is rfl 29 _ rfl (.pointer (some ⟨s0, 0, none⟩)) rfl X (gb_lV HG1.out HX.out) ?_)
     | (go_at_call 108; refine (HOx.out _).mono ?_; rintro e1 w3 ⟨rfl, hb⟩; have hB3 := HB1.out.trans (hb.mono HSZ1.out); have HG3 := Lib.hid (HG1.out.up hb); clear hb HG1 HB1 HSZ1 v0 v1 v2 vlt))
    go_ret
    exact ⟨by rw [HR.out]; rfl, hB3⟩
   ·have HA2 := hnx rfl
    clear hno hnx
    go_wp2_with (first
     | (refine wpList_load_is rfl 29 _ rfl (.pointer (some ⟨s0, 0, none⟩)) rfl X (gb_lV HG1.out HX.out) ?_)
     | (go_at_call 108; refine (HOx.out _).mono ?_; rintro e1 w3 ⟨rfl, hb⟩; have hB3 := HB1.out.trans (hb.mono HSZ1.out); have HG3 := Lib.hid (HG1.out.up hb); clear hb HG1 HB1 HSZ1 v0 v1 v2 vlt))
    go_roundg (n - (k + 1))
    case measure => omega
    case rel => exact ⟨k + 1, by go_num, by omega, by omega, HA2, HG3, hB3⟩
  ·obtain rfl : k = n := by omega
   have hltz : ¬ (k : Int) < (k : Int) := by omega
   have HR : Hid (r = true) := Lib.hid (by rw [HV2.out]; exact HA.out)
   go_wp2_with fail
   go_ret
   exact ⟨by rw [HR.out]; rfl, hB⟩
open Go.RowKit Go.Maps Go.Sort Go.Shelf
theorem ts9_keyed : Keyed Tryz.prog 9 := string_keyed Tryz.underlying9
abbrev litS (s : ByteArray) : Lit := .string s.data.toList
theorem litS_inj {a b : ByteArray} (h : litS a = litS b) : a = b := by
 injection h with h
 exact ByteArray.ext (Array.toList_inj.1 h)
theorem key_str {s : ByteArray} (hs : s.size ≤ maxLen) : keyOf Tryz.prog 9 (.string s) = some (litS s) := WideMaps.keyOf_string_mk Tryz.underlying9 hs
def SetS (w : World) (b m : Nat) (S : ByteArray → Bool) : Prop := ∃ D : DataW Value, w.ownsMap Tryz.prog 9 heldE b m D ∧ ∀ x, Maps.has D (litS x) = S x ∧ ∀ z, D.atKey (litS x) z = cond (S x) (.held (.bool true)) z
theorem SetS.lt {w : World} {b m : Nat} {S : ByteArray → Bool} (h : SetS w b m S) : b < w.heap.size := by
 obtain ⟨D, h1, _⟩ := h
 exact h1.lt
theorem SetS.blk {w w' : World} {b m : Nat} {S : ByteArray → Bool} (h : SetS w b m S) (hk : w'.heap[b]? = w.heap[b]?) : SetS w' b m S := by
 obtain ⟨D, ⟨es, clock, hb, rest⟩, h2⟩ := h
 exact ⟨D, ⟨es, clock, hk.trans hb, rest⟩, h2⟩
theorem SetS.up {w w' : World} {b m : Nat} {S : ByteArray → Bool} (h : SetS w b m S) (hb : Below w.heap.size w w') : SetS w' b m S := h.blk (hb.block b h.lt)
theorem SetS.made (w : World) : SetS (w.alloc (.map #[] 0)) w.heap.size 0 (fun _ => false) :=
 ⟨.map [], World.ownsMap_made _ _ _ _, fun _ => ⟨rfl, fun _ => rfl⟩⟩
theorem SetS.put {w' : World} {b n : Nat} {D : DataW Value} {S : ByteArray → Bool} {c : ByteArray} (h2 : IsMap D) (h3 : ∀ x, Maps.has D (litS x) = S x ∧ ∀ z, D.atKey (litS x) z = cond (S x) (.held (.bool true)) z) (h4 : w'.ownsMap Tryz.prog 9 heldE b n (D.put (litS c) (.held (.bool true)))) :
  SetS w' b n (fun x => decide (x = c) || S x) := by
 have hkl : ∀ z : ByteArray, WideAt.IsKeyLit (litS z) := fun z => by simp [WideAt.IsKeyLit]
 refine ⟨_, h4, fun x => ?_⟩
 dsimp only
 by_cases hxc : x = c
 ·subst hxc
  rw [has_put_same h2 (hkl _), decide_eq_true rfl]
  exact ⟨rfl, fun z => by rw [atKey_put_same h2 (hkl _)]; rfl⟩
 ·have hne : litS x ≠ litS c := fun e => hxc (litS_inj e)
  rw [has_put_other hne, decide_eq_false hxc]
  refine ⟨(h3 x).1, fun z => ?_⟩
  rw [atKey_put_other hne]
  exact (h3 x).2 z
theorem wpList_sets_look {w : World} {ops : Array Oper} {rest : List Oper} {o : Oper} {a : Act} {Q : Exit → Act → World → Prop} (hg : o.guard = none) (m x : Operand) (hop : o.op = Op.lookup 128 m x false)
  (b n : Nat) (S : ByteArray → Bool) (hm : a.eval m = .map (some b)) (hs : SetS w b n S) (c : ByteArray) (hx : a.eval x = .string c) (hw : c.size ≤ maxLen)
  (hK : wpList Tryz.prog ops Q rest (a.put o.dst (.bool (S c))) w) : wpList Tryz.prog ops Q (o :: rest) a w := by
 obtain ⟨D, h1, h3⟩ := hs
 refine wpList_plain hg fun K' hK' => ?_
 have hz : ∀ w : World, (zeroValue 4).run Tryz.prog w = .ok (.bool false) w := fun w => by kernel_rfl
 obtain ⟨v, ps, hrun, hv⟩ := h1.lookup ts9_keyed Tryz.underlying128 (hz w) (zd := .held (.bool false)) (zp := []) rfl (key_str hw)
 have he : v = .bool (S c) := by
  rw [(h3 c).2] at hv
  simp only [heldE, Option.some.injEq, Prod.mk.injEq] at hv
  have h4 := hv.1
  cases hf : S c
  ·rw [hf] at h4; injection h4
  ·rw [hf] at h4; injection h4
 unfold Oper.wp
 simp [execOp, hop, hm, hx, hrun, Result.andThen]
 exact hK' _ _ (he ▸ hK)
theorem wpList_sets_lookq {w : World} {ops : Array Oper} {rest : List Oper} {o : Oper} {a : Act} {Q : Exit → Act → World → Prop} (hg : o.guard = none) (m x : Operand) (hop : o.op = Op.lookup 128 m x false)
  (b n : Nat) (S : ByteArray → Bool) (hm : a.eval m = .map (some b)) (hs : SetS w b n S) (c : ByteArray) (hx : a.eval x = .string c) (hw : c.size ≤ maxLen) (q : Bool) (hq : S c = q)
  (hK : wpList Tryz.prog ops Q rest (a.put o.dst (.bool q)) w) : wpList Tryz.prog ops Q (o :: rest) a w := by
 subst hq
 exact wpList_sets_look hg m x hop b n S hm hs c hx hw hK
theorem wpList_sets_put {w : World} {ops : Array Oper} {rest : List Oper} {o : Oper} {a : Act} {Q : Exit → Act → World → Prop} (hg : o.guard = none) (m x y : Operand) (hop : o.op = Op.mapUpdate 128 m x y)
  (b n : Nat) (S : ByteArray → Bool) (hm : a.eval m = .map (some b)) (hs : SetS w b n S) (c : ByteArray) (hx : a.eval x = .string c) (hy : a.eval y = .bool true) (hw : c.size ≤ maxLen) (hn : n ≤ 1000000)
  (hK : ∀ w', Hid (SetS w' b (n + 1) (fun x => decide (x = c) || S x)) → Hid (w.grownBy w' (some b)) → wpList Tryz.prog ops Q rest (a.put o.dst undef) w') : wpList Tryz.prog ops Q (o :: rest) a w := by
 obtain ⟨D, h1, h3⟩ := hs
 have h2 := h1.isMap
 refine wpList_mapUpdate_own w hg m x y 128 hop 9 4 ts9_keyed Tryz.underlying128 heldE b n D hm h1 (by unfold maxLen; omega) _ _ _ hx hy (key_str hw) (.held (.bool true)) [] rfl ?_
 intro w' h4 h5
 exact hK w' (Lib.hid (SetS.put h2 h3 h4)) (Lib.hid h5)
theorem wp_load_is {P : Program} {o : Oper} {a : Act} {w : World} {K : Act → World → Prop} {Q : Exit → Act → World → Prop} (ty : TypeId) (x : Operand) (hop : o.op = .load ty x) (p : Value) (hx : a.eval x = p) (V : Value)
  (hl : (Instr.loadAt ty p).run P w = .ok V w) (h : K (a.put o.dst V) w) : o.wp P a w K Q := by
 unfold Oper.wp execOp
 simp only [hop, hx, Sem.run_bind, hl, Sem.run_pure, Result.andThen_ok]
 exact h
theorem yieldsIf_load_is {P : Program} {ops : Array Oper} {S : World → Prop} {op : Oper} {a : Act} (hw : Region.wanted op (yielded ops a.tmps) = true) (ty : TypeId) (x : Operand) (ho : op.op = .load ty x) (p : Value) (hx : a.eval x = p) (V : Value)
  (hS : ∀ w, S w → (Instr.loadAt ty p).run P w = .ok V w) : YieldsIf P ops S op V a :=
 .inl ⟨hw, fun w hw' => by
  unfold execOp
  simp only [ho, hx, Sem.run_bind, hS w hw', Sem.run_pure, Result.andThen_ok]⟩
def rowP (L : List Acc) (R : List Int) (G : List Ent) (i : Nat) : Bool := dsN G i && enpB L R (G.getD i ent0)
def ensP (L : List Acc) (R : List Int) (G : List Ent) : Bool := decide (1 ≤ G.length) && (decide (G.length ≤ 12) && (!(G.getD 0 ent0).jt && allTo (rowP L R G) G.length))
def SeenN (G : List Ent) (k : Nat) (S : ByteArray → Bool) : Prop := ∀ x, S x = true ↔ ∃ i, i < k ∧ (G.getD i ent0).nm = x
theorem SeenN.start {G : List Ent} : SeenN G 0 (fun _ => false) := fun x => by simp
theorem SeenN.now {G : List Ent} {k : Nat} {S : ByteArray → Bool} (h : SeenN G k S) : dsN G k = !S (G.getD k ent0).nm := by
 rw [Bool.eq_iff_iff, dsN_is, Bool.not_eq_true']
 constructor
 ·intro h1
  cases hS : S (G.getD k ent0).nm with
  | false => rfl
  | true =>
   obtain ⟨i, hi, e⟩ := (h _).1 hS
   exact absurd e (h1 i hi)
 ·intro h1 i hi e
  rw [(h _).2 ⟨i, hi, e⟩] at h1
  cases h1
theorem SeenN.step {G : List Ent} {k : Nat} {S : ByteArray → Bool} {c : ByteArray} (h : SeenN G k S) (hc : (G.getD k ent0).nm = c) : SeenN G (k + 1) (fun x => decide (x = c) || S x) := fun x => by
 rw [Bool.or_eq_true, decide_eq_true_eq, h x]
 constructor
 ·rintro (rfl | ⟨i, hi, e⟩)
  ·exact ⟨k, by omega, hc⟩
  ·exact ⟨i, by omega, e⟩
 ·rintro ⟨i, hi, e⟩
  rcases Nat.lt_or_ge i k with h1 | h1
  ·exact .inr ⟨i, h1, e⟩
  ·obtain rfl : i = k := by omega
   exact .inl (by rw [← e, hc])
set_option maxRecDepth 20000 in
set_option maxHeartbeats 3200000 in
theorem gents_any (g : Grp) (L : List Acc) (G : List Ent) (w : World) (hk : GrK w g L G) (hs : Sm g G) (hw : GrW g L G) :
  Calls Tryz.prog 59 #[grpV g] w fun e' w' => e' = .returned (.bool (ensP L g.R G)) ∧ Below w.heap.size w w' := by
 have hB := below_alloc_new (w := w) (.cells #[.string g.cur, .int .i64 g.cy, .int .i64 g.cm, .int .i64 g.cp, .slice g.A g.n g.c, .int .i64 g.r0, .int .i64 g.r1, .int .i64 g.r2, .int .i64 g.r3, .int .i64 g.r4, .int .i64 g.r5, .int .i64 g.r6, .int .i64 g.r7, .int .i64 g.r8, .int .i64 g.r9, .int .i64 g.r10, .int .i64 g.r11, .int .i64 g.r12, .int .i64 g.r13, .int .i64 g.r14, .slice g.E g.m g.d] 29)
 have hG := gb_new w 29 g
 have hv : ensP L g.R G = (decide (1 ≤ G.length) && (decide (G.length ≤ 12) && (!(G.getD 0 ent0).jt && allTo (rowP L g.R G) G.length))) := rfl
 rw [hk.lg] at hv
 have hrow : ∀ k, rowP L g.R G k = (dsN G k && enpB L g.R (G.getD k ent0)) := fun _ => rfl
 have h1 : ∀ k, k < g.m → ∀ w, AccAt w g.A L → EntsK w G → Calls Tryz.prog 84 #[grpV g, eV (G.getD k ent0)] w fun e' w' => e' = .returned (.bool (enpB L g.R (G.getD k ent0))) ∧ Below w.heap.size w w' := fun k hk2 w hz he => by
  have hm := getD_mem_acc (d := ent0) (L := G) (i := k) (by rw [hk.lg]; exact hk2)
  have := hs.e _ hm
  have := hs.n
  exact gent_any g L _ w hz hk.ln (by omega) (he _ hm) (by omega) (by omega)
 have hnm : ∀ k, k < g.m → (G.getD k ent0).nm.size ≤ maxLen := fun k hk2 => (hw.txt _ (getD_mem_acc (by rw [hk.lg]; exact hk2))).1
 have hat := fun k (hk2 : k < g.m) => ent_at hk.he (k := k) (by rw [hk.lg]; exact hk2)
 obtain ⟨X, hX⟩ : ∃ X : Value, X = grpV g := ⟨_, rfl⟩
 rw [← hX] at h1
 generalize ensP L g.R G = r at *
 obtain ⟨P, hP⟩ : ∃ P : Nat → Bool, rowP L g.R G = P := ⟨_, rfl⟩
 rw [hP] at hv
 simp only [hP] at hrow
 obtain ⟨s0, hs0⟩ : ∃ s0, w.heap.size = s0 := ⟨_, rfl⟩
 have hm14 := hs.m
 rw [hs0] at hB hG ⊢
 have HS0 := Lib.hid hs0
 have HG := Lib.hid hG
 have HX := Lib.hid hX
 have HV := Lib.hid hv
 have HRow := Lib.hid hrow
 have H1 := Lib.hid h1
 have HNM := Lib.hid hnm
 have HAt := Lib.hid hat
 have HZ := Lib.hid hk.hz
 have HEK := Lib.hid hk.hk
 have c20 := hG.c20
 clear hk hs hw hv hrow h1 hnm hat hX hP hG
 by_cases k0 : g.m = 0
 ·have e0 : ((g.m : Int) == 0) = true := by rw [k0]; rfl
  have HR : Hid (r = false) := Lib.hid (by rw [HV.out, decide_eq_false (by omega)]; rfl)
  clear k0
  go_enter Tryz.func59, Tryz.ntmps59
  go_wp2_with fail
  go_ret
  exact ⟨by rw [HR.out]; rfl, hB⟩
 have e0 : ((g.m : Int) == 0) = false := beq_eq_false_iff_ne.2 (by omega)
 clear c20 HG hB
 obtain ⟨b, off, eE, hbw, hc0⟩ := HAt.out 0 (by omega)
 have hB := below_alloc_new (w := w) (.cells #[.string g.cur, .int .i64 g.cy, .int .i64 g.cm, .int .i64 g.cp, .slice g.A g.n g.c, .int .i64 g.r0, .int .i64 g.r1, .int .i64 g.r2, .int .i64 g.r3, .int .i64 g.r4, .int .i64 g.r5, .int .i64 g.r6, .int .i64 g.r7, .int .i64 g.r8, .int .i64 g.r9, .int .i64 g.r10, .int .i64 g.r11, .int .i64 g.r12, .int .i64 g.r13, .int .i64 g.r14, .slice g.E g.m g.d] 29)
 have hG := gb_new w 29 g
 have d4 := (hc0.up (below_alloc_new (.cells #[.string g.cur, .int .i64 g.cy, .int .i64 g.cm, .int .i64 g.cp, .slice g.A g.n g.c, .int .i64 g.r0, .int .i64 g.r1, .int .i64 g.r2, .int .i64 g.r3, .int .i64 g.r4, .int .i64 g.r5, .int .i64 g.r6, .int .i64 g.r7, .int .i64 g.r8, .int .i64 g.r9, .int .i64 g.r10, .int .i64 g.r11, .int .i64 g.r12, .int .i64 g.r13, .int .i64 g.r14, .slice g.E g.m g.d] 29)) hbw).c4
 have hMB := SetS.made (w.alloc (.cells #[.string g.cur, .int .i64 g.cy, .int .i64 g.cm, .int .i64 g.cp, .slice g.A g.n g.c, .int .i64 g.r0, .int .i64 g.r1, .int .i64 g.r2, .int .i64 g.r3, .int .i64 g.r4, .int .i64 g.r5, .int .i64 g.r6, .int .i64 g.r7, .int .i64 g.r8, .int .i64 g.r9, .int .i64 g.r10, .int .i64 g.r11, .int .i64 g.r12, .int .i64 g.r13, .int .i64 g.r14, .slice g.E g.m g.d] 29))
 have e9 : (w.alloc (.cells #[.string g.cur, .int .i64 g.cy, .int .i64 g.cm, .int .i64 g.cp, .slice g.A g.n g.c, .int .i64 g.r0, .int .i64 g.r1, .int .i64 g.r2, .int .i64 g.r3, .int .i64 g.r4, .int .i64 g.r5, .int .i64 g.r6, .int .i64 g.r7, .int .i64 g.r8, .int .i64 g.r9, .int .i64 g.r10, .int .i64 g.r11, .int .i64 g.r12, .int .i64 g.r13, .int .i64 g.r14, .slice g.E g.m g.d] 29)).heap.size = s0 + 1 := by simp; omega
 have hG1 := hG.up (below_alloc_new (.map #[] 0))
 have hB1 : Below s0 w ((w.alloc (.cells #[.string g.cur, .int .i64 g.cy, .int .i64 g.cm, .int .i64 g.cp, .slice g.A g.n g.c, .int .i64 g.r0, .int .i64 g.r1, .int .i64 g.r2, .int .i64 g.r3, .int .i64 g.r4, .int .i64 g.r5, .int .i64 g.r6, .int .i64 g.r7, .int .i64 g.r8, .int .i64 g.r9, .int .i64 g.r10, .int .i64 g.r11, .int .i64 g.r12, .int .i64 g.r13, .int .i64 g.r14, .slice g.E g.m g.d] 29)).alloc (.map #[] 0)) := by rw [hs0] at hB; exact hB.alloc (by omega) _
 rw [hs0] at hB hG hG1
 rw [eE] at hB hG hG1 d4 hMB hB1 e9
 rw [e9] at hMB
 simp only [Nat.zero_mul, Nat.add_zero] at d4
 have c20 := hG.c20
 have c20' := hG1.c20
 rw [eE] at c20 c20'
 have hv2 := HV.out
 rw [decide_eq_true (show 1 ≤ g.m by omega), Bool.true_and] at hv2
 rcases Nat.lt_or_ge 12 g.m with k1 | k1
 ·have e1 : decide ((12 : Int) < (g.m : Int)) = true := decide_eq_true (by omega)
  have HR : Hid (r = false) := Lib.hid (by rw [hv2, decide_eq_false (by omega)]; rfl)
  clear k0 k1 hv2 hMB hG hG1 hbw hc0
  go_enter Tryz.func59, Tryz.ntmps59
  go_wp2_with fail
  go_ret
  exact ⟨by rw [HR.out]; rfl, hB⟩
 have e1 : decide ((12 : Int) < (g.m : Int)) = false := decide_eq_false (by omega)
 rw [decide_eq_true k1, Bool.true_and] at hv2
 have h0z : (0 : Int) < (g.m : Int) := by omega
 generalize (G.getD 0 ent0).jt = jt at *
 cases jt
 case true =>
  have HR : Hid (r = false) := Lib.hid (by rw [hv2]; rfl)
  clear k0 k1 hv2 hbw hc0 hMB hG hG1
  go_enter Tryz.func59, Tryz.ntmps59
  go_wp2_with fail
  go_ret
  exact ⟨by rw [HR.out]; rfl, hB⟩
 have HV2 := Lib.hid (show r = allTo P g.m from hv2)
 have HMB := Lib.hid hMB
 have HG1 := Lib.hid hG1
 have hmm := @run_makeMap Tryz.prog
 clear k0 k1 hv2 hbw hc0 HV hG hG1 hMB e9 hB
 go_enter Tryz.func59, Tryz.ntmps59
 go_wp2_with fail
 have hat2 : ∀ k, k < g.m → E5 w b (off + k * 5) (G.getD k ent0) ∧ b < w.heap.size := fun k hk => by
  obtain ⟨b', off', e', hb', hc'⟩ := HAt.out k hk
  rw [eE] at e'
  cases e'
  exact ⟨hc', hb'⟩
 have HAt2 := Lib.hid hat2
 clear HAt hat2 hs0 eE d4 c20 c20'
 go_loopg [27] g.m (fun kx s27 wr => ∃ (k m : Nat) (S : ByteArray → Bool), s27 = .int .i64 k ∧ k ≤ g.m ∧ g.m - k ≤ kx ∧ m ≤ k ∧ Hid (allTo P k = true) ∧ Hid (SeenN G k S) ∧ Hid (SetS wr (s0 + 1) m S) ∧ Hid (GB wr s0 g) ∧ Below s0 w wr)
 case atStart => exact ⟨0, 0, _, rfl, by omega, by omega, by omega, Lib.hid rfl, Lib.hid SeenN.start, HMB, HG1, hB1⟩
 case round =>
  clear hB1 HMB HG1
  obtain ⟨k, m, S, rfl, hk, hkx, hmk, HA, HSN, HM, HG, hB⟩ := hrel
  by_cases hlt : k < g.m
  ·have hltz : (k : Int) < (g.m : Int) := by omega
   have hsz : s0 ≤ wr.heap.size := by have := HG.out.lt; omega
   obtain ⟨hc5, hbw⟩ := HAt2.out k hlt
   obtain ⟨d0, d1, d2, d3, d4⟩ := hc5.up hB (by have := HS0.out; omega)
   have hnx0 := HNM.out k hlt
   have hno : P k = false → r = false := fun h => by rw [HV2.out]; exact allTo_no hlt h
   have hnx : P k = true → Hid (allTo P (k + 1) = true) := fun h => Lib.hid (by show (allTo P k && P k) = true; rw [HA.out, h]; rfl)
   have hrow := HRow.out k
   have hnow := HSN.out.now
   have hstep := fun c hc => HSN.out.step (c := c) hc
   have h1x := fun w h h' => H1.out k hlt w h h'
   obtain ⟨x, hx⟩ : ∃ x, G.getD k ent0 = x := ⟨_, rfl⟩
   rw [hx] at d0 d1 d2 d3 d4 hnx0 hrow hnow hstep h1x
   have HST := Lib.hid (hstep x.nm rfl)
   obtain ⟨q1, hq1⟩ : ∃ q, S x.nm = q := ⟨_, rfl⟩
   rw [hq1] at hnow
   rw [hnow] at hrow
   generalize enpB L g.R x = q2 at *
   generalize P k = pk at *
   have HQ := Lib.hid hq1
   have HNx := Lib.hid hnx0
   have H1x := Lib.hid h1x
   have heb := eb_new wr 82 x.nm x.cur x.A x.n x.c x.B x.m x.d x.jt
   have HEB := Lib.hid heb
   obtain ⟨z0, z1, z2, z3, z4, zlt⟩ := heb
   have HB1 : Hid (Below s0 w (wr.alloc (.cells #[.string x.nm, .string x.cur, .slice x.A x.n x.c, .slice x.B x.m x.d, .bool x.jt] 82))) := Lib.hid (hB.alloc hsz _)
   have HSZ1 : Hid (s0 ≤ (wr.alloc (.cells #[.string x.nm, .string x.cur, .slice x.A x.n x.c, .slice x.B x.m x.d, .bool x.jt] 82)).heap.size) := Lib.hid (by simp; omega)
   have HG1 := Lib.hid (HG.out.up (below_alloc_new (.cells #[.string x.nm, .string x.cur, .slice x.A x.n x.c, .slice x.B x.m x.d, .bool x.jt] 82)))
   have HM1 := Lib.hid (HM.out.up (below_alloc_new (.cells #[.string x.nm, .string x.cur, .slice x.A x.n x.c, .slice x.B x.m x.d, .bool x.jt] 82)))
   have HZ1 : Hid (AccAt (wr.alloc (.cells #[.string x.nm, .string x.cur, .slice x.A x.n x.c, .slice x.B x.m x.d, .bool x.jt] 82)) g.A L) := Lib.hid (HZ.out.up (by rw [HS0.out]; exact HB1.out))
   have HE1 : Hid (EntsK (wr.alloc (.cells #[.string x.nm, .string x.cur, .slice x.A x.n x.c, .slice x.B x.m x.d, .bool x.jt] 82)) G) := Lib.hid (HEK.out.up (by rw [HS0.out]; exact HB1.out))
   clear hx hq1 hnx0 h1x hstep hnow hc5 HA HG HM HSN hB
   cases q1
   ·cases q2
    ·have HR := Lib.hid (hno (by rw [hrow]; rfl))
     clear hno hnx hrow
     go_wp2_with (first | (refine wpList_sets_lookq rfl _ _ rfl (s0 + 1) m S rfl HM1.out x.nm rfl HNx.out _ HQ.out ?_) | (refine wpList_load_is rfl 29 _ rfl (.pointer (some ⟨s0, 0, none⟩)) rfl X (gb_lV HG1.out HX.out) ?_) | (refine wpList_load_if rfl 29 _ rfl (.pointer (some ⟨s0, 0, none⟩)) rfl X (gb_lV HG1.out HX.out) ?_) | (refine wp_load_is 29 _ rfl (.pointer (some ⟨s0, 0, none⟩)) rfl X (gb_lV HG1.out HX.out) ?_) | (go_at_call 84; (with_reducible refine (H1x.out _ HZ1.out HE1.out).mono ?_); rintro e1 w3 ⟨rfl, hb⟩; have hB3 := HB1.out.trans (hb.mono HSZ1.out); have hsz3 : s0 ≤ w3.heap.size := Nat.le_trans HSZ1.out hb.size; have HG3 := Lib.hid (HG1.out.up hb); have HM3 := Lib.hid (HM1.out.up hb); have HEB3 := HEB.out.up hb; clear hb HG1 HM1 HB1 HSZ1 z0 z1 z2 z3 z4 zlt HEB d0 d1 d2 d3 d4; obtain ⟨z0, z1, z2, z3, z4, zlt⟩ := HEB3))
     go_ret
     exact ⟨by rw [HR.out]; rfl, hB3⟩
    ·have HA2 := hnx (by rw [hrow]; rfl)
     clear hno hnx hrow
     go_wp2_with (first | (refine wpList_sets_lookq rfl _ _ rfl (s0 + 1) m S rfl HM1.out x.nm rfl HNx.out _ HQ.out ?_) | (refine wpList_load_is rfl 29 _ rfl (.pointer (some ⟨s0, 0, none⟩)) rfl X (gb_lV HG1.out HX.out) ?_) | (refine wpList_load_if rfl 29 _ rfl (.pointer (some ⟨s0, 0, none⟩)) rfl X (gb_lV HG1.out HX.out) ?_) | (refine wp_load_is 29 _ rfl (.pointer (some ⟨s0, 0, none⟩)) rfl X (gb_lV HG1.out HX.out) ?_) | (go_at_call 84; (with_reducible refine (H1x.out _ HZ1.out HE1.out).mono ?_); rintro e1 w3 ⟨rfl, hb⟩; have hB3 := HB1.out.trans (hb.mono HSZ1.out); have hsz3 : s0 ≤ w3.heap.size := Nat.le_trans HSZ1.out hb.size; have HG3 := Lib.hid (HG1.out.up hb); have HM3 := Lib.hid (HM1.out.up hb); have HEB3 := HEB.out.up hb; clear hb HG1 HM1 HB1 HSZ1 z0 z1 z2 z3 z4 zlt HEB d0 d1 d2 d3 d4; obtain ⟨z0, z1, z2, z3, z4, zlt⟩ := HEB3) | (at_mapUpdate; refine wpList_sets_put rfl _ _ _ rfl (s0 + 1) m S rfl HM3.out x.nm rfl rfl HNx.out (by omega) ?_; intro w4 hm4 hg4; have hb4 := grown_below hB3 hg4.out (by omega) hsz3; have HG4 := Lib.hid (HG3.out.blk (hg4.out.block s0 HG3.out.lt (by intro e; injection e with e; omega))); clear hg4))
     go_roundg (g.m - (k + 1))
     case measure => omega
     case rel => exact ⟨k + 1, m + 1, _, by go_num, by omega, by omega, by omega, HA2, HST, hm4, HG4, hb4⟩
   ·have HR := Lib.hid (hno (by rw [hrow]; rfl))
    have hB3 := HB1.out
    clear hno hnx hrow
    go_wp2_with (refine wpList_sets_lookq rfl _ _ rfl (s0 + 1) m S rfl HM1.out x.nm rfl HNx.out _ HQ.out ?_)
    go_ret
    exact ⟨by rw [HR.out]; rfl, hB3⟩
  ·have hke : k = g.m := by omega
   have hltz : ¬ (k : Int) < (g.m : Int) := by omega
   have HR : Hid (r = true) := Lib.hid (by rw [HV2.out, ← hke]; exact HA.out)
   clear hke
   go_wp2_with fail
   go_ret
   exact ⟨by rw [HR.out]; rfl, hB⟩
theorem setCells_size (b : Nat) : ∀ (vs : List Value) (o : Nat) (w : World), (w.setCells b o vs).heap.size = w.heap.size
 | [], _, _ => rfl
 | v :: r, o, w => by
  rw [World.setCells, setCells_size b r]
  exact World.size_setCell _ _ _
def entC (e : Ent) : List Value := [.string e.nm, .string e.cur, .slice e.A e.n e.c, .slice e.B e.m e.d, .bool e.jt]
theorem entC_get : ∀ (G : List Ent) (i : Nat), i < G.length → ∀ j, j < 5 → (G.flatMap entC)[i * 5 + j]? = (entC (G.getD i ent0))[j]?
 | [], i, h => by simp at h
 | a :: G, 0, _ => fun j hj => by
  rw [List.flatMap_cons, Nat.zero_mul, Nat.zero_add, List.getElem?_append_left (by simpa [entC] using hj)]; rfl
 | a :: G, i + 1, h => fun j hj => by
  have := entC_get G i (by simpa using h) j hj
  have e1 : (i + 1) * 5 + j = i * 5 + j + (entC a).length := by simp [entC]; omega
  rw [List.flatMap_cons, e1, List.getElem?_append_right (by omega), Nat.add_sub_cancel]
  simpa using this
theorem infoEn : (Tryz.prog.info? 82).map (fun i => (i.zero, i.size, i.bytes)) = some (some (.agg #[.string ⟨#[]⟩, .string ⟨#[]⟩, .slice none 0 0, .slice none 0 0, .bool false]), 5, 88) := by kernel_rfl
end Go.Proofs.YtacmccijnkojeaaGreat
