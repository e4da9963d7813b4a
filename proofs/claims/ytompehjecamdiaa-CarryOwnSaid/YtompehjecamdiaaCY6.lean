/- Contracts of the functions that the statements reach, part 6: what was proved of each, callees first. -/
import Derived.Shelf.SlGeneric
import Derived.Test.YtompehjecamdiaaCY5
namespace Go.Proofs.Ytompehjecamdiaa.AK
open Go Go.RowKit
open Go.Proofs.Ytompehjecamdiaa.AS (edgesOk needsOk onceOk waits2 limOk allWritten allocsOk aOk Apart Written Written.more getD_flag)
variable {Rp Kp : World → World → Prop}
def storesOk (ops : Array Oper) (pt : List (List Nat)) (st : List Nat) (js : List (List Nat)) : Bool :=
 (List.range st.length).all fun m => decide (st.getD m 0 < ops.size) &&
  (Nat.beq m 0 || Region.waitsFor .any ops (st.getD m 0) (st.getD (m - 1) 0)) && (js.getD (m + 1) []).all fun d => (pt.getD (st.getD m 0) []).contains d || (js.getD m []).contains d || (match ops[st.getD m 0]? with | some o => o.dst == some d | none => false)
def lowOk (ops : Array Oper) (st ln : List Nat) : Bool :=
 (List.range ops.size).all fun i => Nat.beq (ln.getD i 0) 0 || (decide (ln.getD i 0 ≤ st.length) && waits2 ops i (st.getD (ln.getD i 0 - 1) 0))
def chk (al : List Nat) (ops : Array Oper) (pt : List (List Nat)) (ds st : List Nat) (js : List (List Nat)) (lm ln : List Nat) : Bool :=
 lowOk ops st ln && (allocsOk ops al st && al.all ds.contains && edgesOk ops && needsOk ops pt ds && onceOk ops && storesOk ops pt st js && limOk ops st lm && allWritten ops ds && (js.getD 0 []).isEmpty)
structure Chk (al : List Nat) (ops : Array Oper) (pt : List (List Nat)) (ds st : List Nat) (js : List (List Nat)) (lm ln : List Nat) : Prop where
 low : ∀ i, i < ops.size → ln.getD i 0 = 0 ∨ (ln.getD i 0 ≤ st.length ∧ waits2 ops i (st.getD (ln.getD i 0 - 1) 0) = true)
 edge : ∀ (i : Nat) (o : Oper), ops[i]? = some o → ∀ e ∈ o.after, Region.binds .any e = true → e.on < i
 dst : ∀ (i : Nat) (o : Oper), ops[i]? = some o → ∀ d, o.dst = some d → d ∈ ds
 need : ∀ (i : Nat) (o : Oper), ops[i]? = some o → ∀ d ∈ pt.getD i [], ∃ e ∈ o.after, Region.binds .any e = true ∧ ((∃ o' : Oper, ops[e.on]? = some o' ∧ o'.dst = some d) ∨ d ∈ pt.getD e.on [])
 once : ∀ (i j : Nat) (o o' : Oper) (d : Nat), ops[i]? = some o → ops[j]? = some o' → o.dst = some d → o'.dst = some d → i = j
 slt : ∀ m, m < st.length → st.getD m 0 < ops.size
 schain : ∀ m, 0 < m → m < st.length → Region.waitsFor .any ops (st.getD m 0) (st.getD (m - 1) 0) = true
 sjs : ∀ m, m < st.length → ∀ d ∈ js.getD (m + 1) [], d ∈ pt.getD (st.getD m 0) [] ∨ d ∈ js.getD m [] ∨ ∃ o : Oper, ops[st.getD m 0]? = some o ∧ o.dst = some d
 lim : ∀ i, i < ops.size → lm.getD i st.length = st.length ∨ waits2 ops (st.getD (lm.getD i st.length) ops.size) i = true
 wr : ∀ d ∈ ds, ∃ (i : Nat) (o : Oper), ops[i]? = some o ∧ o.dst = some d
 js0 : js.getD 0 [] = []
 alw : ∀ d ∈ al, ∀ m, m < st.length → ∃ (i : Nat) (o : Oper), ops[i]? = some o ∧ o.dst = some d ∧ waits2 ops (st.getD m 0) i = true
 ald : ∀ d ∈ al, d ∈ ds
section
variable {ops : Array Oper} {ds st lm ln al : List Nat} {js pt : List (List Nat)}
theorem chk_spec (h : chk al ops pt ds st js lm ln = true) : Chk al ops pt ds st js lm ln := by
 unfold chk at h
 simp only [Bool.and_eq_true] at h
 obtain ⟨h10, ⟨⟨⟨⟨⟨⟨⟨h8, h9⟩, h1⟩, h2⟩, h3⟩, h4⟩, h5⟩, h6⟩, h7⟩ := h
 have lt : ∀ (i : Nat) (o : Oper), ops[i]? = some o → i ∈ List.range ops.size := fun i o ho => List.mem_range.2 (Array.getElem?_eq_some_iff.1 ho).1
 constructor
 ·intro i hi
  have h := List.all_eq_true.1 h10 i (List.mem_range.2 hi)
  simp only [Bool.or_eq_true, Nat.beq_eq, Bool.and_eq_true, decide_eq_true_eq] at h
  exact h
 ·intro i o ho e he hb
  have h := List.all_eq_true.1 h1 i (lt i o ho)
  rw [ho] at h
  dsimp only at h
  rw [Array.all_eq_true_iff_forall_mem] at h
  have h := h e he
  rw [hb] at h
  simpa using h
 ·intro i o ho d hd
  have h := List.all_eq_true.1 h2 i (lt i o ho)
  rw [ho] at h
  dsimp only at h
  rw [hd] at h
  simp only [Bool.and_eq_true] at h
  simpa using h.1
 ·intro i o ho d hd
  have h := List.all_eq_true.1 h2 i (lt i o ho)
  rw [ho] at h
  simp only [Bool.and_eq_true] at h
  have h := List.all_eq_true.1 h.2 d hd
  rw [Array.any_eq_true] at h
  obtain ⟨k, hk, h⟩ := h
  rw [Bool.and_eq_true, Bool.or_eq_true] at h
  refine ⟨o.after[k], Array.getElem_mem _, h.1, ?_⟩
  rcases h.2 with h4 | h4
  ·left
   cases h5 : ops[(o.after[k]).on]? with
   | none => rw [h5] at h4; cases h4
   | some o' => rw [h5] at h4; exact ⟨o', rfl, by simpa using h4⟩
  ·right; simpa using h4
 ·intro i j o o' d ho ho' hd hd'
  have h := List.all_eq_true.1 (List.all_eq_true.1 h3 i (lt i o ho)) j (lt j o' ho')
  rw [ho, ho'] at h
  dsimp only at h
  rw [hd, hd'] at h
  simpa using h
 ·intro m hm
  have h := List.all_eq_true.1 h4 m (List.mem_range.2 hm)
  simp only [Bool.and_eq_true, decide_eq_true_eq] at h
  exact h.1.1
 ·intro m h0 hm
  have h := List.all_eq_true.1 h4 m (List.mem_range.2 hm)
  simp only [Bool.and_eq_true, decide_eq_true_eq, Bool.or_eq_true, Nat.beq_eq] at h
  rcases h.1.2 with h | h
  ·omega
  ·exact h
 ·intro m hm d hd
  have h := List.all_eq_true.1 h4 m (List.mem_range.2 hm)
  simp only [Bool.and_eq_true] at h
  have h := List.all_eq_true.1 h.2 d hd
  simp only [Bool.or_eq_true] at h
  rcases h with (h | h) | h
  ·exact .inl (by simpa using h)
  ·exact .inr (.inl (by simpa using h))
  ·cases ho : ops[st.getD m 0]? with
   | none => rw [ho] at h; cases h
   | some o => rw [ho] at h; exact .inr (.inr ⟨o, rfl, by simpa using h⟩)
 ·intro i hi
  have h := List.all_eq_true.1 h5 i (List.mem_range.2 hi)
  simp only [Bool.or_eq_true, Nat.beq_eq] at h
  exact h
 ·intro d hd
  have h := List.all_eq_true.1 h6 d hd
  rw [Array.any_eq_true] at h
  obtain ⟨k, hk, h⟩ := h
  exact ⟨k, ops[k], by simp [hk], by simpa using h⟩
 ·simpa using h7
 ·intro d hd m hm
  have h := List.all_eq_true.1 (List.all_eq_true.1 h8 d hd) (st.getD m 0) (by simp [hm])
  obtain ⟨i, hi, h⟩ := List.any_eq_true.1 h
  rw [Bool.and_eq_true] at h
  cases ho : ops[i]? with
  | none => rw [ho] at h; cases h.1
  | some o => rw [ho] at h; exact ⟨i, o, ho, by simpa using h.1, h.2⟩
 ·intro d hd
  have h := List.all_eq_true.1 h9 d hd
  simpa using h
end
open Go.Proofs.Ytompehjecamdiaa (fillL upd fillL_size fillL_get fillL_upd fillL_self filter_less none_listed put_fill)
structure Fact (Kp : World → World → Prop) where
 p : Value → World → Prop
 st : ∀ v w w', Kp w w' → p v w → p v w'
def Fact.triv : Fact Kp := ⟨fun _ _ => True, fun _ _ _ _ _ => trivial⟩
def Fact.is (x : Value) : Fact Kp := ⟨fun v _ => v = x, fun _ _ _ _ h => h⟩
def look : List (Nat × Fact Kp) → Nat → Fact Kp
 | [], _ => Fact.triv
 | (k, f) :: rest, d => bif Nat.beq k d then f else look rest d
def temps (FL : List (Nat × Fact Kp)) : List Nat := FL.map (·.1)
def factOf (FL : List (Nat × Fact Kp)) (dst : Option Nat) (v : Value) (w : World) : Prop := match dst with
 | none => True
 | some d => (look FL d).p v w
def Facts (FL : List (Nat × Fact Kp)) (u : Nat → Value) (w : World) : List Nat → Prop
 | [] => True
 | d :: ds => (look FL d).p (u d) w ∧ Facts FL u w ds
theorem facts_mk {FL : List (Nat × Fact Kp)} {u : Nat → Value} {w : World} {ds : List Nat} (h : ∀ d ∈ ds, (look FL d).p (u d) w) : Facts FL u w ds := by
 induction ds with
 | nil => trivial
 | cons d ds ih => exact ⟨h d (List.mem_cons_self ..), ih fun e he => h e (List.mem_cons_of_mem _ he)⟩
theorem facts_get {FL : List (Nat × Fact Kp)} {u : Nat → Value} {w : World} {ds : List Nat} (h : Facts FL u w ds) (d : Nat) (hd : d ∈ ds) : (look FL d).p (u d) w := by
 induction ds with
 | nil => cases hd
 | cons e ds ih =>
  rcases List.mem_cons.1 hd with rfl | hd
  ·exact h.1
  ·exact ih h.2 hd
section
variable {P : Program} {ops : Array Oper} {Q : Exit → Act → World → Prop} {FL : List (Nat × Fact Kp)} {J : Nat → List Value → World → Prop} {t0 : Array Value} {df : List Deferred} {ds : List Nat}
 {st lm ln al : List Nat} {js : List (List Nat)} {pt : List (List Nat)}
def StepOk (Rp : World → World → Prop) (al : List Nat) (P : Program) (ops : Array Oper) (Q : Exit → Act → World → Prop) (FL : List (Nat × Fact Kp)) (J : Nat → List Value → World → Prop) (js : List (List Nat)) (fr : (Nat → Value) → Array Value) (df : List Deferred) (o : Oper) (need : List Nat) (lim lo : Nat) : Prop :=
 ∀ (k : Nat) (u : Nat → Value) (w : World), k ≤ lim → lo ≤ k → J k ((js.getD k []).map u) w → Facts FL u w need → ∀ K : Act → World → Prop, Shut (∀ v w', Rp w w' → factOf FL o.dst v w' → aOk al o.dst v w w' → K ((⟨fr u, df⟩ : Act).put o.dst v) w') →
  if Region.wanted o (yielded ops (fr u)) = true then Oper.wp P o ⟨fr u, df⟩ w K Q else K ((⟨fr u, df⟩ : Act).put o.dst undef) w
def StoreOk (al : List Nat) (P : Program) (ops : Array Oper) (Q : Exit → Act → World → Prop) (FL : List (Nat × Fact Kp)) (J : Nat → List Value → World → Prop) (js : List (List Nat)) (fr : (Nat → Value) → Array Value) (df : List Deferred) (o : Oper) (need : List Nat) (k : Nat) : Prop :=
 ∀ (u : Nat → Value) (w : World), J k ((js.getD k []).map u) w → Apart al u → Facts FL u w need → ∀ K : Act → World → Prop, Shut (∀ v w', J (k + 1) ((js.getD (k + 1) []).map (upd u o.dst v)) w' → Kp w w' → factOf FL o.dst v w' → K ((⟨fr u, df⟩ : Act).put o.dst v) w') →
  if Region.wanted o (yielded ops (fr u)) = true then Oper.wp P o ⟨fr u, df⟩ w K Q else K ((⟨fr u, df⟩ : Act).put o.dst undef) w
def StepsOk (Rp : World → World → Prop) (al : List Nat) (P : Program) (ops : Array Oper) (Q : Exit → Act → World → Prop) (FL : List (Nat × Fact Kp)) (J : Nat → List Value → World → Prop) (js : List (List Nat)) (fr : (Nat → Value) → Array Value) (df : List Deferred) (pt : List (List Nat)) (st lm ln : List Nat) : List Oper → Nat → Prop
 | [], _ => True
 | o :: rest, i => (match st.idxOf? i with
   | some k => StoreOk al P ops Q FL J js fr df o (pt.getD i []) k
   | none => StepOk Rp al P ops Q FL J js fr df o (pt.getD i []) (lm.getD i st.length) (ln.getD i 0)) ∧ StepsOk Rp al P ops Q FL J js fr df pt st lm ln rest (i + 1)
theorem StepsOk.nil {fr : (Nat → Value) → Array Value} {i : Nat} : StepsOk Rp al P ops Q FL J js fr df pt st lm ln [] i := trivial
theorem sc {fr : (Nat → Value) → Array Value} {o : Oper} {rest : List Oper} {i : Nat} {need : List Nat} {lim lo : Nat} (h0 : st.idxOf? i = none) (h1 : pt.getD i [] = need) (h2 : lm.getD i st.length = lim) (h3 : ln.getD i 0 = lo)
  (h : StepOk Rp al P ops Q FL J js fr df o need lim lo) (hs : StepsOk Rp al P ops Q FL J js fr df pt st lm ln rest (i + 1)) : StepsOk Rp al P ops Q FL J js fr df pt st lm ln (o :: rest) i := ⟨by rw [h0, h1, h2, h3]; exact h, hs⟩
theorem ss {fr : (Nat → Value) → Array Value} {o : Oper} {rest : List Oper} {i k : Nat} {need : List Nat} (h0 : st.idxOf? i = some k) (h1 : pt.getD i [] = need)
  (h : StoreOk al P ops Q FL J js fr df o need k) (hs : StepsOk Rp al P ops Q FL J js fr df pt st lm ln rest (i + 1)) : StepsOk Rp al P ops Q FL J js fr df pt st lm ln (o :: rest) i := ⟨by rw [h0, h1]; exact h, hs⟩
theorem steps_at {fr : (Nat → Value) → Array Value} : ∀ (l : List Oper) (i0 : Nat), StepsOk Rp al P ops Q FL J js fr df pt st lm ln l i0 → ∀ i o, l[i]? = some o → (match st.idxOf? (i0 + i) with
      | some k => StoreOk al P ops Q FL J js fr df o (pt.getD (i0 + i) []) k
      | none => StepOk Rp al P ops Q FL J js fr df o (pt.getD (i0 + i) []) (lm.getD (i0 + i) st.length) (ln.getD (i0 + i) 0)) := by
  intro l
  induction l with
  | nil => intro i0 _ i o h; simp at h
  | cons x l ih =>
    intro i0 hs i o h
    cases i with
    | zero => simp at h; subst h; exact hs.1
    | succ i =>
      have := ih (i0 + 1) hs.2 i o (by simpa using h)
      rwa [show i0 + 1 + i = i0 + (i + 1) by omega] at this
structure Inv (al : List Nat) (ops : Array Oper) (FL : List (Nat × Fact Kp)) (J : Nat → List Value → World → Prop) (js : List (List Nat)) (t0 : Array Value) (df : List Deferred) (ds : List Nat) (pt : List (List Nat)) (st : List Nat) (listed : Array Bool) (a : Act) (w : World) : Prop where
 fr : ∃ k u, a = ⟨fillL u ds t0, df⟩ ∧ (∀ d, Written ops listed d → (look FL d).p (u d) w) ∧ J k ((js.getD k []).map u) w ∧ k ≤ st.length ∧ (∀ m, m < k → listed.getD (st.getD m 0) false = true) ∧
  (∀ m, k ≤ m → m < st.length → listed.getD (st.getD m 0) false = false) ∧ (∀ d ∈ js.getD k [], Written ops listed d) ∧ (∀ d ∈ al, Written ops listed d → ∃ g, u d = .pointer (some ⟨g, 0, none⟩) ∧ g < w.heap.size) ∧
  (∀ d ∈ al, ∀ d' ∈ al, d ≠ d' → Written ops listed d → Written ops listed d' → u d ≠ u d')
 cl : ∀ i, listed.getD i false = true → ∀ d ∈ pt.getD i [], Written ops listed d
 cs : ∀ j oj, ops[j]? = some oj → listed.getD j false = true → ∀ e ∈ oj.after, Region.binds .any e = true → listed.getD e.on false = true
 sz : listed.size = ops.size
theorem inv_step (hc : Chk al ops pt ds st js lm ln) (hsz : ∀ w w' : World, Kp w w' → w.heap.size ≤ w'.heap.size) (hrk : ∀ w w' : World, Rp w w' → Kp w w') (hst : ∀ k l w w', Rp w w' → J k l w → J k l w') (hs : StepsOk Rp al P ops Q FL J js (fun u => fillL u ds t0) df pt st lm ln ops.toList 0) {listed : Array Bool} {a : Act} {w : World}
    (hI : Inv al ops FL J js t0 df ds pt st listed a w) {i : Nat} (hi : i ∈ Region.ready .any ops listed) :
    wpOp P ops Q i (Inv al ops FL J js t0 df ds pt st (listed.setIfInBounds i true)) a w := by
  obtain ⟨h0, o, ho, hall⟩ := mem_ready.1 hi
  have hlt : i < ops.size := (Array.getElem?_eq_some_iff.1 ho).1
  have hil : i < listed.size := by rw [hI.sz]; exact hlt
  have hun : listed.getD i false = false := by rw [← getD_flag hil]; exact h0
  obtain ⟨k, u, rfl, hfac, hJ, hk, hk1, hk2, hk3, hk4, hk5⟩ := hI.fr
  have hneed : ∀ d ∈ pt.getD i [], Written ops listed d := by
    intro d hd
    obtain ⟨e, he, hb, h1⟩ := hc.need i o ho d hd
    have h2 := hall e he hb
    rcases h1 with ⟨o', h3, h4⟩ | h3
    · exact ⟨e.on, o', h2, h3, h4⟩
    · exact hI.cl e.on h2 d h3
  have hstep := steps_at _ _ hs i o (by simpa using ho)
  rw [Nat.zero_add] at hstep
  have hcs : ∀ j oj, ops[j]? = some oj → (listed.setIfInBounds i true).getD j false = true → ∀ e ∈ oj.after, Region.binds .any e = true → (listed.setIfInBounds i true).getD e.on false = true := by
    intro j oj hj hl e he hb
    by_cases hij : i = j
    · subst hij
      have : oj = o := Option.some.inj (hj.symm.trans ho)
      subst this
      exact getD_set_true (hall e he hb)
    · rw [getD_set_ne false hij] at hl
      exact getD_set_true (hI.cs j oj hj hl e he hb)
  have hcl : ∀ j, (listed.setIfInBounds i true).getD j false = true → ∀ d ∈ pt.getD j [], Written ops (listed.setIfInBounds i true) d := by
    intro j hj d hd
    by_cases hij : i = j
    · subst hij; exact (hneed d hd).more
    · rw [getD_set_ne false hij] at hj
      exact (hI.cl j hj d hd).more
  have hwait : ∀ m, m < k → ∀ j, Region.waitsFor .any ops (st.getD m 0) j = true → listed.getD j false = true := by
    intro m hm j hw
    obtain ⟨oj, hoj, e, he, hb, hon⟩ := Region.waitsFor_spec hw
    rw [← hon]
    exact hI.cs _ oj hoj (hk1 m hm) e he hb
  have hwait2 : ∀ m, m < k → ∀ j, waits2 ops (st.getD m 0) j = true → listed.getD j false = true := by
    intro m hm j hw
    unfold waits2 at hw
    rw [Bool.or_eq_true] at hw
    rcases hw with hw | hw
    · exact hwait m hm j hw
    · obtain ⟨x, -, hx⟩ := List.any_eq_true.1 hw
      rw [Bool.and_eq_true] at hx
      obtain ⟨oj, hoj, e, he, hb, hon⟩ := Region.waitsFor_spec hx.2
      rw [← hon]
      exact hI.cs _ oj hoj (hwait m hm x hx.1) e he hb
  cases hsi : st.idxOf? i with
  | none =>
    rw [hsi] at hstep
    have hns : ∀ m, m < st.length → st.getD m 0 ≠ i := by
      intro m hm e
      have h1 : i ∈ st := by rw [← e]; simp [hm]
      have h2 := List.idxOf?_eq_none_iff.1 hsi
      exact h2 h1
    have hlim : k ≤ lm.getD i st.length := by
      rcases hc.lim i hlt with h1 | h1
      · omega
      · rcases Nat.lt_or_ge (lm.getD i st.length) k with h2 | h2
        · exfalso
          have h3 := hwait2 _ h2 i (by
            have e : st.getD (lm.getD i st.length) ops.size = st.getD (lm.getD i st.length) 0 := by
              have : lm.getD i st.length < st.length := by omega
              generalize lm.getD i st.length = z at *
              simp [this]
            rw [← e]; exact h1)
          rw [hun] at h3; cases h3
        · exact h2
    have hlow : ln.getD i 0 ≤ k := by
      rcases hc.low i hlt with h1 | ⟨h0, h1⟩
      · omega
      · rcases Nat.lt_or_ge k (ln.getD i 0) with h2 | h2
        · exfalso
          have h3 : listed.getD (st.getD (ln.getD i 0 - 1) 0) false = true := by
            unfold waits2 at h1
            rw [Bool.or_eq_true] at h1
            rcases h1 with h1 | h1
            · obtain ⟨oj, hoj, e, he, hb, hon⟩ := Region.waitsFor_spec h1
              have : oj = o := Option.some.inj (hoj.symm.trans ho)
              subst this
              rw [← hon]; exact hall e he hb
            · obtain ⟨x, -, hx⟩ := List.any_eq_true.1 h1
              rw [Bool.and_eq_true] at hx
              obtain ⟨oj, hoj, e, he, hb, hon⟩ := Region.waitsFor_spec hx.1
              have : oj = o := Option.some.inj (hoj.symm.trans ho)
              subst this
              have h4 := hall e he hb
              rw [hon] at h4
              obtain ⟨oj2, hoj2, e2, he2, hb2, hon2⟩ := Region.waitsFor_spec hx.2
              rw [← hon2]
              exact hI.cs _ oj2 hoj2 h4 e2 he2 hb2
          rw [hk2 (ln.getD i 0 - 1) (by omega) (by omega)] at h3
          cases h3
        · exact h2
    refine wpOp_step ho (fun K' hK => hstep k u w hlim hlow hJ (facts_mk fun d hd => hfac d (hneed d hd)) K' ?_)
    intro v w' hb hf hao
    have hwi : ∀ d, Written ops (listed.setIfInBounds i true) d → o.dst = some d ∨ Written ops listed d := by
      rintro d ⟨j, o', h1, h2, h3⟩
      by_cases hij : i = j
      · subst hij
        rw [ho] at h2
        injection h2 with h2
        subst h2
        exact .inl h3
      · rw [getD_set_ne false hij] at h1
        exact .inr ⟨j, o', h1, h2, h3⟩
    have hnw : ∀ d, o.dst = some d → ¬ Written ops listed d := by
      rintro d hd ⟨j, o', h1, h2, h3⟩
      have := hc.once i j o o' d ho h2 hd h3
      subst this
      rw [hun] at h1; cases h1
    have hne : ∀ d, o.dst ≠ some d → upd u o.dst v d = u d := by
      intro d hd
      cases h : o.dst with
      | none => rfl
      | some d' => rw [h] at hd; simp only [upd]; rw [if_neg (fun h => hd (by rw [h]))]
    have hal : ∀ d ∈ al, o.dst = some d → v = .pointer (some ⟨w.heap.size, 0, none⟩) ∧ w.heap.size < w'.heap.size := by
      intro d hd h
      unfold aOk at hao
      rw [h] at hao
      dsimp only at hao
      rw [show al.contains d = true by simpa using hd] at hao
      exact hao
    refine hK _ _ ⟨⟨k, upd u o.dst v, put_fill u o v (hc.dst i o ho), ?_, ?_, hk, fun m hm => getD_set_true (hk1 m hm), fun m hm hm' => ?_, fun d hd => (hk3 d hd).more, fun d hd hw => ?_, fun d hd d' hd' hdd hw hw' => ?_⟩, hcl, hcs, by simpa using hI.sz⟩
    · rintro d ⟨j, o', h1, h2, h3⟩
      by_cases hd : o.dst = some d
      · rw [hd] at hf ⊢
        have e : upd u (some d) v d = v := by simp [upd]
        rw [e]; exact hf
      · have hw : Written ops listed d := by
          by_cases hij : i = j
          · subst hij
            rw [ho] at h2
            injection h2 with h2
            subst h2
            exact absurd h3 hd
          · rw [getD_set_ne false hij] at h1
            exact ⟨j, o', h1, h2, h3⟩
        have e : upd u o.dst v d = u d := by
          cases h : o.dst with
          | none => rfl
          | some d' => rw [h] at hd; simp only [upd]; rw [if_neg (fun h => hd (by rw [h]))]
        rw [e]
        exact (look FL d).st _ _ _ (hrk _ _ hb) (hfac d hw)
    · have e : (js.getD k []).map (upd u o.dst v) = (js.getD k []).map u := by
        apply List.map_congr_left
        intro d hd
        cases h : o.dst with
        | none => rfl
        | some d' =>
          simp only [upd]
          rw [if_neg]
          rintro rfl
          obtain ⟨j, o', h1, h2, h3⟩ := hk3 d hd
          have := hc.once i j o o' d ho h2 h h3
          subst this
          rw [hun] at h1; cases h1
      rw [e]
      exact hst _ _ _ _ hb hJ
    · rw [getD_set_ne false (Ne.symm (hns m hm'))]; exact hk2 m hm hm'
    · by_cases h : o.dst = some d
      · obtain ⟨h1, h2⟩ := hal d hd h
        exact ⟨w.heap.size, by rw [h]; simp [upd, h1], h2⟩
      · rcases hwi d hw with h1 | h1
        · exact absurd h1 h
        · obtain ⟨g, h2, h3⟩ := hk4 d hd h1
          exact ⟨g, by rw [hne d h]; exact h2, Nat.lt_of_lt_of_le h3 (hsz _ _ (hrk _ _ hb))⟩
    · by_cases h : o.dst = some d
      · have h' : o.dst ≠ some d' := fun h2 => hdd (by rw [h] at h2; injection h2)
        rcases hwi d' hw' with h1 | h1
        · exact absurd h1 h'
        · obtain ⟨g, h2, h3⟩ := hk4 d' hd' h1
          rw [hne d' h', h2, h]
          simp only [upd, if_pos]
          rw [(hal d hd h).1]
          intro he
          simp at he <;> omega
      · rcases hwi d hw with h1 | h1
        · exact absurd h1 h
        · by_cases h' : o.dst = some d'
          · obtain ⟨g, h2, h3⟩ := hk4 d hd h1
            rw [hne d h, h2, h']
            simp only [upd, if_pos]
            rw [(hal d' hd' h').1]
            intro he
            simp at he <;> omega
          · rcases hwi d' hw' with h2 | h2
            · exact absurd h2 h'
            · rw [hne d h, hne d' h']; exact hk5 d hd d' hd' hdd h1 h2
  | some m =>
    rw [hsi] at hstep
    obtain ⟨hm, hmi, -⟩ := List.idxOf?_eq_some_iff.1 hsi
    have hmi' : st.getD m 0 = i := by simp [hm]; exact hmi
    have hmk : m = k := by
      rcases Nat.lt_trichotomy m k with h1 | h1 | h1
      · have := hk1 m h1; rw [hmi', hun] at this; cases this
      · exact h1
      · exfalso
        have h2 := hc.schain m (by omega) hm
        rw [hmi'] at h2
        obtain ⟨oj, hoj, e, he, hb, hon⟩ := Region.waitsFor_spec h2
        have : oj = o := Option.some.inj (hoj.symm.trans ho)
        subst this
        have h3 := hall e he hb
        rw [hon, hk2 (m - 1) (by omega) (by omega)] at h3
        cases h3
    subst hmk
    have hwal : ∀ d ∈ al, Written ops listed d := by
      intro d hd
      obtain ⟨j, o', h1, h2, h3⟩ := hc.alw d hd m hm
      rw [hmi'] at h3
      refine ⟨j, o', ?_, h1, h2⟩
      unfold waits2 at h3
      rw [Bool.or_eq_true] at h3
      rcases h3 with h3 | h3
      · obtain ⟨oj, hoj, e, he, hb, hon⟩ := Region.waitsFor_spec h3
        have : oj = o := Option.some.inj (hoj.symm.trans ho)
        subst this
        rw [← hon]; exact hall e he hb
      · obtain ⟨x, -, hx⟩ := List.any_eq_true.1 h3
        rw [Bool.and_eq_true] at hx
        obtain ⟨oj, hoj, e, he, hb, hon⟩ := Region.waitsFor_spec hx.1
        have : oj = o := Option.some.inj (hoj.symm.trans ho)
        subst this
        have h4 := hall e he hb
        rw [hon] at h4
        obtain ⟨oj2, hoj2, e2, he2, hb2, hon2⟩ := Region.waitsFor_spec hx.2
        rw [← hon2]
        exact hI.cs _ oj2 hoj2 h4 e2 he2 hb2
    refine wpOp_step ho (fun K' hK => hstep u w hJ (fun d hd d' hd' hdd => hk5 d hd d' hd' hdd (hwal d hd) (hwal d' hd')) (facts_mk fun d hd => hfac d (hneed d hd)) K' ?_)
    intro v w' hJ' hb hf
    have hnw : ∀ d, o.dst = some d → ¬ Written ops listed d := by
      rintro d hd ⟨j, o', h1, h2, h3⟩
      have := hc.once i j o o' d ho h2 hd h3
      subst this
      rw [hun] at h1; cases h1
    have hne : ∀ d, o.dst ≠ some d → upd u o.dst v d = u d := by
      intro d hd
      cases h : o.dst with
      | none => rfl
      | some d' => rw [h] at hd; simp only [upd]; rw [if_neg (fun h => hd (by rw [h]))]
    have hnl : ∀ d ∈ al, o.dst ≠ some d := fun d hd h => hnw d h (hwal d hd)
    refine hK _ _ ⟨⟨m + 1, upd u o.dst v, put_fill u o v (hc.dst i o ho), ?_, hJ', hm, fun j hj => ?_, fun j hj hj' => ?_, fun d hd => ?_, fun d hd hw => ?_, fun d hd d' hd' hdd hw hw' => by rw [hne d (hnl d hd), hne d' (hnl d' hd')]; exact hk5 d hd d' hd' hdd (hwal d hd) (hwal d' hd')⟩, hcl, hcs, by simpa using hI.sz⟩
    · rintro d ⟨j, o', h1, h2, h3⟩
      by_cases hd : o.dst = some d
      · rw [hd] at hf ⊢
        have e : upd u (some d) v d = v := by simp [upd]
        rw [e]; exact hf
      · have hw : Written ops listed d := by
          by_cases hij : i = j
          · subst hij
            rw [ho] at h2
            injection h2 with h2
            subst h2
            exact absurd h3 hd
          · rw [getD_set_ne false hij] at h1
            exact ⟨j, o', h1, h2, h3⟩
        rw [hne d hd]
        exact (look FL d).st _ _ _ hb (hfac d hw)
    · by_cases h1 : j = m
      · subst h1; rw [hmi']; simp [hil]
      · exact getD_set_true (hk1 j (by omega))
    · have h1 := hk2 j (by omega) hj'
      by_cases h2 : st.getD j 0 = i
      · exfalso
        have h3 : ∀ n, m ≤ n → n < st.length → i ≤ st.getD n 0 ∧ (m < n → i < st.getD n 0) := by
          intro n
          induction n with
          | zero => intro h4 h5; exact ⟨by have : m = 0 := by omega
                                           subst this; rw [hmi']; exact Nat.le_refl _, fun h => by omega⟩
          | succ n ih =>
            intro h4 h5
            by_cases h6 : m = n + 1
            · subst h6; exact ⟨by rw [hmi']; exact Nat.le_refl _, fun h => by omega⟩
            · have h7 := ih (by omega) (by omega)
              have h8 := hc.schain (n + 1) (by omega) h5
              obtain ⟨oj, hoj, e, he, hb', hon⟩ := Region.waitsFor_spec h8
              have h9 := hc.edge _ oj hoj e he hb'
              rw [hon, Nat.add_sub_cancel] at h9
              exact ⟨by omega, fun _ => by omega⟩
        have := (h3 j (by omega) hj').2 (by omega)
        omega
      · rw [getD_set_ne false (Ne.symm h2)]; exact h1
    · rcases hc.sjs m hm d hd with h1 | h1
      · rw [hmi'] at h1; exact (hneed d h1).more
      · rcases h1 with h1 | ⟨o2, h1, h2⟩
        · exact (hk3 d h1).more
        · rw [hmi'] at h1
          exact ⟨i, o2, by simp [hil], h1, h2⟩
    · obtain ⟨g, h1, h2⟩ := hk4 d hd (hwal d hd)
      exact ⟨g, by rw [hne d (hnl d hd)]; exact h1, Nat.lt_of_lt_of_le h2 (hsz _ _ hb)⟩
theorem ready_nil_all (hc : Chk al ops pt ds st js lm ln) {listed : Array Bool} (hsz : listed.size = ops.size) (hr : Region.ready .any ops listed = []) : ∀ n i, i < n → i < ops.size → listed.getD i false = true := by
 intro n
 induction n with
 | zero => intro i h; omega
 | succ n ih =>
  intro i hin hi
  have hil : i < listed.size := by omega
  cases hv : listed.getD i false with
  | true => rfl
  | false =>
   exfalso
   have ho : ops[i]? = some ops[i] := by simp [hi]
   have : i ∈ Region.ready .any ops listed := by
    rw [mem_ready]
    refine ⟨by simp [hil] at hv ⊢; exact hv, _, ho, fun e he hb => ?_⟩
    have h1 := hc.edge i _ ho e he hb
    exact ih e.on (by omega) (by omega)
   rw [hr] at this
   cases this
theorem wpAny_inv (hc : Chk al ops pt ds st js lm ln) (hsz : ∀ w w' : World, Kp w w' → w.heap.size ≤ w'.heap.size) (hrk : ∀ w w' : World, Rp w w' → Kp w w') (hst : ∀ k l w w', Rp w w' → J k l w → J k l w') (hs : StepsOk Rp al P ops Q FL J js (fun u => fillL u ds t0) df pt st lm ln ops.toList 0)
  (hend : ∀ u w, J st.length ((js.getD st.length []).map u) w → Facts FL u w ds → Q .normal ⟨fillL u ds t0, df⟩ w) :
  ∀ (fuel : Nat) (listed : Array Bool) (a : Act) (w : World), ((List.range ops.size).filter fun j => !listed.getD j true).length ≤ fuel → Inv al ops FL J js t0 df ds pt st listed a w → wpAny P .any ops Q fuel listed a w := by
 have hfin : ∀ (listed : Array Bool) (a : Act) (w : World), Inv al ops FL J js t0 df ds pt st listed a w → Region.ready .any ops listed = [] → Q .normal a w := by
  intro listed a w hI hr
  obtain ⟨k, u, rfl, hfac, hJ, hk, hk1, hk2, hk3, hk4, hk5⟩ := hI.fr
  have hall := Go.Proofs.Ytompehjecamdiaa.AK.ready_nil_all hc hI.sz hr
  have hkl : k = st.length := by
   rcases Nat.lt_or_ge k st.length with h | h
   ·have h1 := hk2 k (Nat.le_refl _) h
    rw [hall (st.getD k 0 + 1) _ (by omega) (hc.slt k h)] at h1
    cases h1
   ·omega
  subst hkl
  refine hend u w hJ (facts_mk fun d hd => hfac d ?_)
  obtain ⟨i, o, h1, h2⟩ := hc.wr d hd
  exact ⟨i, o, hall (i + 1) i (by omega) (Array.getElem?_eq_some_iff.1 h1).1, h1, h2⟩
 intro fuel
 induction fuel with
 | zero =>
  intro listed a w hcnt hI
  have hr : Region.ready .any ops listed = [] := by
   rw [List.eq_nil_iff_forall_not_mem]
   intro j hj
   obtain ⟨h0, o, ho, -⟩ := mem_ready.1 hj
   have hlt : j < ops.size := (Array.getElem?_eq_some_iff.1 ho).1
   have hm : j ∈ (List.range ops.size).filter fun j => !listed.getD j true := by
    rw [List.mem_filter]
    exact ⟨List.mem_range.2 hlt, by rw [h0]; rfl⟩
   have := List.length_pos_of_mem hm
   omega
  exact ⟨hr, hfin _ _ _ hI hr⟩
 | succ fuel ih =>
  intro listed a w hcnt hI
  refine ⟨fun hr => hfin _ _ _ hI hr, fun i hi => ?_⟩
  obtain ⟨h0, o, ho, -⟩ := mem_ready.1 hi
  have hlt : i < ops.size := (Array.getElem?_eq_some_iff.1 ho).1
  refine wpOp_mono (fun a' w' hI' => ih _ a' w' ?_ hI') (inv_step hc hsz hrk hst hs hI hi)
  have := filter_less (p := fun j => !listed.getD j true) (q := fun j => !(listed.setIfInBounds i true).getD j true) (i := i) (by simp only [h0]; rfl) (by
   have hil : i < listed.size := by rw [hI.sz]; exact hlt
   simp [hil]) (fun j hj => by
   by_cases hij : i = j
   ·subst hij
    exfalso
    have hil : i < listed.size := by rw [hI.sz]; exact hlt
    simp [hil] at hj
   ·rw [getD_set_ne true hij] at hj; exact hj) (List.range ops.size) (List.mem_range.2 hlt)
  omega
theorem region_facts {id : Nat} {w : World} {opl : List Oper} (FL : List (Nat × Fact Kp)) (J : Nat → List Value → World → Prop) (pt : List (List Nat)) (st : List Nat) (js : List (List Nat)) (lm ln : List Nat) (al : List Nat) {fr : (Nat → Value) → Array Value} (hfr : ∀ u, fillL u (temps FL) t0 = fr u)
  (hm : P.follows .mixedOrders = true) (hchk : chk al opl.toArray pt (temps FL) st js lm ln = true) (hsz : ∀ w w' : World, Kp w w' → w.heap.size ≤ w'.heap.size) (hrk : ∀ w w' : World, Rp w w' → Kp w w') (hst : ∀ k l w w', Rp w w' → J k l w → J k l w') (hJ : J 0 [] w.drew)
  (hs : StepsOk Rp al P opl.toArray Q FL J js fr df pt st lm ln opl 0)
  (hend : ∀ u w, J st.length ((js.getD st.length []).map u) w → Facts FL u w (temps FL) → Q .normal ⟨fr u, df⟩ w) : (Code.region id opl.toArray true).wp P Q ⟨t0, df⟩ w := by
 obtain rfl : (fun u => fillL u (temps FL) t0) = fr := funext hfr
 have hc := chk_spec hchk
 refine wp_region_any hm (wpAny_inv (t0 := t0) hc hsz hrk hst hs hend opl.toArray.size _ _ _ ?_ ⟨⟨0, fun d => t0.getD d undef, by rw [fillL_self], ?_, by rw [hc.js0]; exact hJ, Nat.zero_le _, fun m h => by omega, fun m _ _ => none_listed _ _, fun d hd => (by rw [hc.js0] at hd; cases hd), fun d _ hw => (by obtain ⟨j, o', h1, _, _⟩ := hw; rw [none_listed] at h1; cases h1), fun d _ d' _ _ hw => by obtain ⟨j, o', h1, _, _⟩ := hw; rw [none_listed] at h1; cases h1⟩, ?_, ?_, by simp⟩)
 ·exact Nat.le_trans (List.length_filter_le _ _) (by simp)
 ·rintro d ⟨j, o', h1, -, -⟩
  rw [none_listed] at h1; cases h1
 ·intro i hi
  rw [none_listed] at hi; cases hi
 ·intro j oj _ hl
  rw [none_listed] at hl; cases hl
end
end Go.Proofs.Ytompehjecamdiaa.AK
namespace Go.Proofs.Ytompehjecamdiaa
open Go.RowKit
abbrev Below0 (w w' : World) : Prop := Below w.heap.size w w'
abbrev SizeUp (w w' : World) : Prop := w.heap.size ≤ w'.heap.size
structure Only (S : Nat → Prop) (w w' : World) : Prop where
 os : w'.os = w.os
 tape : w'.tape = w.tape
 output : w'.output = w.output
 size : w.heap.size ≤ w'.heap.size
 blk : ∀ k, k < w.heap.size → ¬ S k → w'.heap[k]? = w.heap[k]?
section
variable {S T : Nat → Prop} {w w' w2 : World} {B b : Nat}
theorem Only.refl (w : World) : Only S w w := ⟨rfl, rfl, rfl, Nat.le_refl _, fun _ _ _ => rfl⟩
theorem Only.trans (h : Only S w w') (k : Only S w' w2) : Only S w w2 :=
 ⟨k.os.trans h.os, k.tape.trans h.tape, k.output.trans h.output, Nat.le_trans h.size k.size, fun i hi hs => (k.blk i (Nat.lt_of_lt_of_le hi h.size) hs).trans (h.blk i hi hs)⟩
theorem Only.of (h : Below w.heap.size w w') : Only S w w' := ⟨h.os, h.tape, h.output, h.size, fun k hk _ => h.block k hk⟩
theorem Only.drew (h : Only S w w') : Only S w w'.drew := ⟨h.os, h.tape, h.output, h.size, h.blk⟩
theorem Only.setCell (w : World) {a : Addr} (ha : S a.block) (v : Value) : Only S w (w.setCell a v) :=
 ⟨rfl, rfl, rfl, by simp [World.setCell], fun k _ hs => Below.heap_setCell _ _ _ _ (fun e => hs (e ▸ ha))⟩
theorem Only.setCells {b : Nat} (hb : S b) : ∀ (vs : List Value) (o : Nat) (w : World), Only S w (w.setCells b o vs)
 | [], _, w => Only.refl w
 | v :: r, o, w => by
  rw [World.setCells]
  exact (Only.setCell w (a := ⟨b, o, none⟩) hb v).trans (Only.setCells hb r (o + 1) _)
theorem Only.grown {row : Option Nat} (h : w.grownBy w' row) (hr : ∀ k, row = some k → S k) : Only S w w' :=
 ⟨h.os, h.tape, h.output, h.size, fun k hk hs => h.block k hk (fun e => hs (hr k e.symm))⟩
theorem Only.below (h : Only S w w') (hS : ∀ k, S k → B ≤ k) (hB : B ≤ w.heap.size) : Below B w w' :=
 ⟨h.os, h.tape, h.output, h.size, fun k hk => h.blk k (by omega) (fun hs => by have := hS k hs; omega)⟩
end
structure Wh (t : TypeId) (w : World) (b : Nat) (cs : List Value) : Prop where
 blk : w.heap[b]? = some (.cells cs.toArray t (0, 0))
section
variable {t : TypeId} {w w' : World} {b : Nat} {cs : List Value}
theorem Wh.lt (h : Wh t w b cs) : b < w.heap.size := by
 rcases Nat.lt_or_ge b w.heap.size with hlt | hge
 ·exact hlt
 ·have := h.blk; rw [Array.getElem?_eq_none hge] at this; cases this
theorem Wh.cell (h : Wh t w b cs) (i : Nat) : w.cell? ⟨b, i, none⟩ = cs[i]? := by simp [World.cell?, h.blk]
theorem Wh.at (h : Wh t w b cs) (i : Nat) (v : Value) (hv : cs[i]? = some v) : w.cell? ⟨b, i, none⟩ = some v := (h.cell i).trans hv
theorem Wh.frozen (h : Wh t w b cs) (i : Nat) : w.frozen? ⟨b, i, none⟩ = false := by simp [World.frozen?, h.blk]
theorem Wh.rg (h : Wh t w b cs) : Rg w b cs := ⟨fun j v hj => h.at j v hj, h.lt⟩
theorem Wh.range (h : Wh t w b cs) : w.rangeAt b 0 cs := fun j v hv => by rw [Nat.zero_add]; exact h.at j v hv
theorem Wh.there (h : Wh t w b cs) {o n : Nat} (hn : o + n ≤ cs.length) : w.there b o n := fun j hj => by
 constructor
 ·rw [h.cell, List.getElem?_eq_getElem (by omega)]; rfl
 ·exact h.frozen _
theorem Wh.same (h : Wh t w b cs) (hk : w'.heap[b]? = w.heap[b]?) : Wh t w' b cs := ⟨hk.trans h.blk⟩
theorem Wh.up (h : Wh t w b cs) (hb : Below w.heap.size w w') : Wh t w' b cs := h.same (hb.block b h.lt)
theorem Wh.only {S : Nat → Prop} (h : Wh t w b cs) (hb : Only S w w') (hs : ¬ S b) : Wh t w' b cs := h.same (hb.blk b h.lt hs)
theorem Wh.new (w : World) (t : TypeId) (cs : List Value) : Wh t (w.alloc (.cells cs.toArray t)) w.heap.size cs := ⟨heap_alloc_new w _⟩
theorem Wh.set (h : Wh t w b cs) (i : Nat) (v : Value) : Wh t (w.setCell ⟨b, i, none⟩ v) b (cs.set i v) := by
 refine ⟨?_⟩
 simp [World.setCell, Array.getElem?_modify, h.blk]
theorem Wh.sets : ∀ (vs : List Value) {w : World} {xs ys zs : List Value}, Wh t w b (xs ++ ys ++ zs) → vs.length = ys.length → Wh t (w.setCells b xs.length vs) b (xs ++ vs ++ zs)
 | [], w, xs, ys, zs, h, hl => by
  obtain rfl : ys = [] := List.eq_nil_of_length_eq_zero hl.symm
  exact h
 | v :: vs, w, xs, [], zs, h, hl => by simp at hl
 | v :: vs, w, xs, y :: ys, zs, h, hl => by
  rw [World.setCells]
  have h1 := h.set xs.length v
  have e1 : (xs ++ (y :: ys) ++ zs).set xs.length v = (xs ++ [v]) ++ ys ++ zs := by simp
  rw [e1] at h1
  have h2 := Wh.sets vs h1 (by simpa using hl)
  have e2 : (xs ++ [v]).length = xs.length + 1 := by simp
  rw [e2] at h2
  simpa using h2
theorem Wh.put (h : Wh t w b cs) (vs : List Value) (hl : vs.length = cs.length) : Wh t (w.setCells b 0 vs) b vs := by
 have h1 := Wh.sets (xs := []) (ys := cs) (zs := []) vs (by simpa using h) hl
 simpa using h1
end
theorem wpList_store_wh {P : Program} {ops : Array Oper} {rest : List Oper} {o : Oper} {a : Act} {w : World} {Q : Exit → Act → World → Prop} (hg : o.guard = none) (ty : TypeId) (x y : Operand) (hop : o.op = .store ty x y)
  (b : Nat) (hx : a.eval x = .pointer (some ⟨b, 0, none⟩)) (t : TypeId) (cs vs : List Value) (hy : a.eval y = .agg vs.toArray) (hw : Wh t w b cs) (hl : vs.length = cs.length)
  (hi : (P.info? ty).map (·.size) = some vs.toArray.size) (h1 : vs.toArray.all (·.oneCell') = true)
  (h : ∀ W, Hid (Wh t W b vs) → Hid (Only (fun k => k = b) w W) → W.heap.size = w.heap.size → wpList P ops Q rest (a.put o.dst undef) W) : wpList P ops Q (o :: rest) a w :=
 wpList_store_mid hg ty x y hop b 0 vs.toArray hx hy (hw.there (by simp [hl])) hi h1 (h _ (Lib.hid (hw.put vs hl)) (Lib.hid (Only.setCells (S := fun k => k = b) rfl vs 0 w)) (by
  have : ∀ (vs : List Value) (o : Nat) (w : World), (w.setCells b o vs).heap.size = w.heap.size := by
   intro vs
   induction vs with
   | nil => intro o w; rfl
   | cons v r ih => intro o w; rw [World.setCells, ih]; exact World.size_setCell _ _ _
  exact this _ _ _))
theorem only_new {w W : World} {o : Obj} (h : Only (fun k => k = w.heap.size) (w.alloc o) W) : Below w.heap.size w W :=
 (below_alloc_new o).trans (h.below (B := w.heap.size) (fun k hk => Nat.le_of_eq hk.symm) (by simp))
open Go.RowKit Go.Maps
set_option maxRecDepth 20000 in
theorem ysamt_any (n : Int) (w : World) : Calls Try.prog 66 #[.int .i64 n] w fun e w' => e = .returned (.bool (amtB n)) ∧ w = w' := by
 unfold amtB
 rcases Int.lt_or_le n (-1000000000000) with h | h
 ·have h1 : decide (-1000000000000 ≤ n) = false := decide_eq_false (by omega)
  rw [h1]
  go_enter Try.func66, Try.ntmps66
  go_wp2_with fail
  go_ret
  exact ⟨rfl, rfl⟩
 ·have h1 : decide (-1000000000000 ≤ n) = true := decide_eq_true h
  rw [h1]
  go_enter Try.func66, Try.ntmps66
  go_wp2_with fail
  go_ret
  exact ⟨rfl, rfl⟩
set_option maxRecDepth 20000 in
set_option maxHeartbeats 1600000 in
theorem yplus_any (g r a : Int) (w : World) (hg : -1000000 ≤ g ∧ g ≤ 1000000) (hr : -1000000000000 < r ∧ r < 1000000000000) (ha : -1000000000000 ≤ a ∧ a ≤ 1000000000000) :
  Calls Try.prog 32 #[sumV g r, .int .i64 a] w fun e w' => e = .returned (sumV (plusG g r a) (plusR r a)) ∧ Below w.heap.size w w' := by
 have hbd := plus_bd (g := g) hr ha
 have hB := ((Below.refl w.heap.size w).alloc (Nat.le_refl _) (.cells #[.int .i64 g, .int .i64 r] 76)).alloc (by simp) (.cells #[.int .i64 0, .int .i64 0] 76)
 obtain ⟨c0, c1⟩ := two_at w g r 76
 obtain ⟨d0, d1⟩ := two_at (w.alloc (.cells #[.int .i64 g, .int .i64 r] 76)) 0 0 76
 have f0 := two_fz (w.alloc (.cells #[.int .i64 g, .int .i64 r] 76)) 0 0 76 0
 have f1 := two_fz (w.alloc (.cells #[.int .i64 g, .int .i64 r] 76)) 0 0 76 1
 have hup := below_alloc_new (w := w.alloc (.cells #[.int .i64 g, .int .i64 r] 76)) (.cells #[.int .i64 0, .int .i64 0] 76)
 replace c0 := (hup.cell (p := ⟨w.heap.size, 0, none⟩) (by simp)).trans c0
 replace c1 := (hup.cell (p := ⟨w.heap.size, 1, none⟩) (by simp)).trans c1
 have hgq := hbd
 unfold plusG at hgq
 unfold plusG plusR
 obtain ⟨s, hs⟩ : ∃ s, r + a = s := ⟨_, rfl⟩
 rw [hs] at hgq ⊢
 have hs1 : -2000000000000 < s ∧ s < 2000000000000 := by omega
 have hw1 : IntKind.i64.wrap (r + a) = s := by rw [hs, IntKind.wrap_i64]; omega
 obtain ⟨q, hq⟩ : ∃ q, s.tdiv 1000000000000 = q := ⟨_, rfl⟩
 obtain ⟨p, hp⟩ : ∃ p, s.tmod 1000000000000 = p := ⟨_, rfl⟩
 rw [hq] at hgq ⊢
 rw [hp]
 have hq2 : IntKind.i64.wrap (s.tdiv 1000000000000) = q := by rw [hq, IntKind.wrap_i64]; omega
 obtain ⟨g2, hg2⟩ : ∃ g2, g + q = g2 := ⟨_, rfl⟩
 rw [hg2] at hgq ⊢
 have hw3 : IntKind.i64.wrap (g + q) = g2 := by rw [hg2, IntKind.wrap_i64]; omega
 have hnz : ¬ (1000000000000 : Int) = 0 := by decide
 clear hs hq hg2 hgq hs1 hbd hg hr ha
 go_enter Try.func32, Try.ntmps32
 go_wp2_with fail
 obtain ⟨y0, y1⟩ := two_at (w.alloc (.cells #[.int .i64 g, .int .i64 r] 76)) g2 p 76
 have e9 : (w.alloc (.cells #[.int .i64 g, .int .i64 r] 76)).heap.size = w.heap.size + 1 := by simp
 rw [e9] at y0 y1
 exact bodyPost_ret (v := sumV g2 p) (by simp [results, Try.results32, go_sem, y0, y1]) rfl ⟨rfl, ((Below.refl w.heap.size w).alloc (Nat.le_refl _) (.cells #[.int .i64 g, .int .i64 r] 76)).alloc (by simp) (.cells #[.int .i64 g2, .int .i64 p] 76)⟩
set_option maxRecDepth 20000 in
set_option maxHeartbeats 1600000 in
theorem yamount_any (g r z : Int) (w : World) (h : SumZ g r z) :
  Calls Try.prog 45 #[sumV g r] w fun e w' => e = .returned (.tuple #[.int .i64 (if amtB z = true then z else 0), .int .i64 (if amtB z = true then 0 else 2)]) ∧ Below w.heap.size w w' := by
 obtain ⟨he, h1, h2⟩ := h
 obtain ⟨zv, hzv⟩ : ∃ zv, (if amtB z = true then z else 0) = zv := ⟨_, rfl⟩
 obtain ⟨q, hq⟩ : ∃ q, amtB z = q := ⟨_, rfl⟩
 rw [hzv, hq]
 rw [hq] at hzv
 have HQ := Lib.hid hq
 have HZV := Lib.hid hzv
 have hc := fun w => ysamt_any z w
 rw [hq] at hc
 clear hq hzv
 have hB := (Below.refl w.heap.size w).alloc (Nat.le_refl _) (.cells #[.int .i64 g, .int .i64 r] 76)
 obtain ⟨c0, c1⟩ := two_at w g r 76
 rcases Int.lt_or_le g (-1) with hg | hg
 ·have hd : decide (g < -1) = true := decide_eq_true hg
  have ha : Hid (q = false) := Lib.hid (by rw [← HQ.out]; unfold amtB; rw [decide_eq_false (by omega)]; rfl)
  obtain rfl := ha.out
  have ev : Hid (zv = 0) := Lib.hid HZV.out.symm
  clear hg he h1 h2 hc ha HQ
  go_enter Try.func45, Try.ntmps45
  go_wp2_with fail
  go_ret2
  exact ⟨by rw [ev.out]; rfl, hB⟩
 have hd : decide (g < -1) = false := decide_eq_false (by omega)
 rcases Int.lt_or_le 1 g with hg2 | hg2
 ·have hd2 : decide (1 < g) = true := decide_eq_true hg2
  have ha : Hid (q = false) := Lib.hid (by rw [← HQ.out]; unfold amtB; rw [decide_eq_false (show ¬ z ≤ 1000000000000 by omega), Bool.and_false])
  obtain rfl := ha.out
  have ev : Hid (zv = 0) := Lib.hid HZV.out.symm
  clear hg hg2 he h1 h2 hc ha HQ
  go_enter Try.func45, Try.ntmps45
  go_wp2_with fail
  go_ret2
  exact ⟨by rw [ev.out]; rfl, hB⟩
 have hd2 : decide (1 < g) = false := decide_eq_false (by omega)
 obtain ⟨t, ht⟩ : ∃ t, g * 1000000000000 = t := ⟨_, rfl⟩
 have hw1 : IntKind.i64.wrap (g * 1000000000000) = t := by rw [ht, IntKind.wrap_i64]; omega
 rw [ht] at he
 have hw2 : IntKind.i64.wrap (t + r) = z := by rw [he, IntKind.wrap_i64]; omega
 clear ht he hg hg2 h1 h2 HQ
 cases q
 ·have ev : Hid (zv = 0) := Lib.hid HZV.out.symm
  have HC := Lib.hid hc
  clear hc
  go_enter Try.func45, Try.ntmps45
  go_wp2_with (go_at_call 66; refine (HC.out _).mono ?_; rintro e w1 ⟨rfl, rfl⟩)
  go_ret2
  exact ⟨by rw [ev.out]; rfl, hB⟩
 ·have ev : Hid (zv = z) := Lib.hid HZV.out.symm
  have HC := Lib.hid hc
  clear hc
  go_enter Try.func45, Try.ntmps45
  go_wp2_with (go_at_call 66; refine (HC.out _).mono ?_; rintro e w1 ⟨rfl, rfl⟩)
  go_ret2
  exact ⟨by rw [ev.out]; rfl, hB⟩
abbrev vwC (mb : Nat) (b r : Int) : List Value := [.map (some mb), .int .i64 b, .int .i64 r]
abbrev vwV (mb : Nat) (b r : Int) : Value := .agg #[.map (some mb), .int .i64 b, .int .i64 r]
abbrev vw0 : Value := .agg #[.map none, .int .i64 0, .int .i64 0]
def resM (L : List Acc) (c : Int) : Option Value := if (fnd L c).isSome = true then some (.bool (resB L c)) else none
theorem resM_some {L : List Acc} {c : Int} : (resM L c).isSome = (fnd L c).isSome := by
 unfold resM
 cases (fnd L c).isSome <;> rfl
theorem resM_get {L : List Acc} {c : Int} : (resM L c).getD (.bool false) = .bool (resB L c) := by
 unfold resM
 cases h : (fnd L c).isSome
 ·cases h2 : resB L c
  ·rfl
  ·rw [resB_fnd h2] at h; cases h
 ·rfl
theorem tb_zero (w : World) : (zeroValue 4).run Try.prog w = .ok (.bool false) w := by kernel_rfl
theorem wpList_mapb_ok {w : World} {ops : Array Oper} {rest : List Oper} {o : Oper} {a : Act} {Q : Exit → Act → World → Prop} (hg : o.guard = none) (m x : Operand) (hop : o.op = Op.lookup 60 m x true)
  (b n : Nat) (f : Int → Option Value) (hm : a.eval m = .map (some b)) (hs : MapV w b n f) (c : Int) (hx : a.eval x = .int .i64 c) (hw : (Lit.int .i64 c).wf = true)
  (hK : wpList Try.prog ops Q rest (a.put o.dst (.tuple #[(f c).getD (.bool false), .bool (f c).isSome])) w) : wpList Try.prog ops Q (o :: rest) a w := by
 obtain ⟨D, h1, h3⟩ := hs
 refine wpList_plain hg fun K' hK' => ?_
 obtain ⟨v, ps, hrun, hv⟩ := h1.look_ok ti_keyed Try.underlying60 (tb_zero w) (zd := .held (.bool false)) (zp := []) rfl (keyOf_int_mk Try.underlying3 hw)
 have he : v = (f c).getD (.bool false) := by
  rw [(h3 c).2] at hv
  simp only [heldE, Option.some.injEq, Prod.mk.injEq] at hv
  have h4 := hv.1
  cases hf : f c with
  | none => rw [hf] at h4; injection h4
  | some u => rw [hf] at h4; injection h4
 rw [(h3 c).1] at hrun
 unfold Oper.wp
 simp [execOp, hop, hm, hx, hrun, Result.andThen]
 exact hK' _ _ (he ▸ hK)
theorem wp_mapg_put {w : World} {o : Oper} {a : Act} {K : Act → World → Prop} {Q : Exit → Act → World → Prop} (t e : TypeId) (ht : Try.prog.underlying t = some (.map 3 e)) (m x y : Operand) (hop : o.op = Op.mapUpdate t m x y)
  (b n : Nat) (f : Int → Option Value) (hm : a.eval m = .map (some b)) (hs : MapV w b n f) (c : Int) (hx : a.eval x = .int .i64 c) (v : Value) (hy : a.eval y = v) (hw : (Lit.int .i64 c).wf = true) (hn : n ≤ 1000000)
  (hK : ∀ w', MapV w' b (n + 1) (fun x => if x = c then some v else f x) → w.grownBy w' (some b) → K (a.put o.dst undef) w') : Oper.wp Try.prog o a w K Q := by
 obtain ⟨D, h1, h3⟩ := hs
 have h2 := h1.isMap
 obtain ⟨w', hrun, h4, h5⟩ := h1.update ti_keyed ht (by unfold maxLen; omega) (val := v) (d := .held v) (ps := []) (keyOf_int_mk Try.underlying3 hw) rfl
 unfold Oper.wp
 simp [execOp, hop, hm, hx, hy, hrun, Result.andThen]
 refine hK w' ⟨_, h4, fun x => ?_⟩ h5
 have hkl : ∀ z : Int, WideAt.IsKeyLit (Lit.int .i64 z) := fun z => by simp [WideAt.IsKeyLit]
 by_cases hxc : x = c
 ·subst hxc
  simp only [if_true]
  exact ⟨by rw [has_put_same h2 (hkl _)]; rfl, fun z => atKey_put_same h2 (hkl _) _ _⟩
 ·simp only [if_neg hxc]
  have hne : Lit.int .i64 x ≠ Lit.int .i64 c := fun e => hxc (by injection e)
  refine ⟨by rw [has_put_other hne]; exact (h3 x).1, fun z => ?_⟩
  rw [atKey_put_other hne]
  exact (h3 x).2 z
theorem cy_end {w w2 W w8 : World} {s1 : Nat} (hB2 : Below w.heap.size w w2) (hb : Below w2.heap.size w2 W) (ho : Only (fun k => k = s1) W w8) (h1 : w.heap.size ≤ s1) : Below w.heap.size w w8 := by
 have h3 := hB2.size
 have h4 := hb.size
 exact (hB2.trans (hb.mono hB2.size)).trans (ho.below (fun k hk => by rw [hk]; exact h1) (by omega))
set_option maxRecDepth 100000 in
theorem yhas_any (L : List Acc) (mb n : Nat) (b r c : Int) (w : World) (hm : MapV w mb n (resM L)) (hw : (Lit.int .i64 c).wf = true) : Calls Try.prog 22 #[vwV mb b r, .int .i64 c] w fun e w' => e = .returned (.bool (fnd L c).isSome) ∧ Below w.heap.size w w' := by
 obtain ⟨s0, hs0⟩ : ∃ s0, w.heap.size = s0 := ⟨_, rfl⟩
 obtain ⟨w2, hw2⟩ : ∃ w2, w.alloc (.cells #[.map (some mb), .int .i64 b, .int .i64 r] 62) = w2 := ⟨_, rfl⟩
 have HXB : Wh 62 w2 s0 (vwC mb b r) := by rw [← hw2, ← hs0]; exact Wh.new w _ _
 have HB2 : Hid (Below w.heap.size w w2) := Lib.hid (by rw [← hw2]; exact below_alloc_new _)
 have HS0 := Lib.hid hs0
 have p0 := HXB.at 0 _ rfl
 have HM := Lib.hid (hm.up HB2.out)
 have HW := Lib.hid hw
 have HQ := Lib.hid (resM_some (L := L) (c := c))
 have HV := Lib.hid (resM_get (L := L) (c := c))
 generalize (fnd L c).isSome = q at *
 generalize resB L c = q2 at *
 clear hm hw HXB
 go_enter Try.func22, Try.ntmps22
 go_wp2_with (first
  | (at_lookup; refine wpList_mapb_ok rfl _ _ rfl mb n (resM L) rfl HM.out c rfl HW.out ?_; rw [HV.out, HQ.out]))
 go_ret
 exact ⟨rfl, by have h9 := HB2.out; first | exact h9 | (rw [← HS0.out]; exact h9)⟩
set_option maxRecDepth 100000 in
theorem yplace_any (L : List Acc) (mb n : Nat) (b r c d : Int) (w : World) (hm : MapV w mb n (resM L)) (hw : (Lit.int .i64 c).wf = true) : Calls Try.prog 23 #[vwV mb b r, .int .i64 c, .int .i64 d] w fun e w' => e = .returned (.int .i64 (plI L r b c d)) ∧ Below w.heap.size w w' := by
 obtain ⟨s0, hs0⟩ : ∃ s0, w.heap.size = s0 := ⟨_, rfl⟩
 obtain ⟨w2, hw2⟩ : ∃ w2, w.alloc (.cells #[.map (some mb), .int .i64 b, .int .i64 r] 62) = w2 := ⟨_, rfl⟩
 have HXB : Wh 62 w2 s0 (vwC mb b r) := by rw [← hw2, ← hs0]; exact Wh.new w _ _
 have HB2 : Hid (Below w.heap.size w w2) := Lib.hid (by rw [← hw2]; exact below_alloc_new _)
 have HS0 := Lib.hid hs0
 have p0 := HXB.at 0 _ rfl
 have p1 := HXB.at 1 _ rfl
 have p2 := HXB.at 2 _ rfl
 have HM := Lib.hid (hm.up HB2.out)
 have HW := Lib.hid hw
 have HV := Lib.hid (resM_get (L := L) (c := c))
 have hp : plI L r b c d = if (resB L c && decide (d < b)) = true then r else c := rfl
 rw [hp]
 generalize resB L c = q at *
 clear hm hw HXB hp
 cases q
 ·go_enter Try.func23, Try.ntmps23
  go_wp2_with (first
   | (at_lookup; refine wpList_mapv_look rfl _ _ _ 4 rfl Try.underlying60 tb_zero mb n (resM L) rfl HM.out c rfl HW.out ?_; rw [HV.out]))
  go_ret
  exact ⟨rfl, by have h9 := HB2.out; first | exact h9 | (rw [← HS0.out]; exact h9)⟩
 by_cases hd : d < b
 ·have hd1 : decide (d < b) = true := decide_eq_true hd
  rw [hd1]
  clear hd
  go_enter Try.func23, Try.ntmps23
  go_wp2_with (first
   | (at_lookup; refine wpList_mapv_look rfl _ _ _ 4 rfl Try.underlying60 tb_zero mb n (resM L) rfl HM.out c rfl HW.out ?_; rw [HV.out]))
  go_ret
  exact ⟨rfl, by have h9 := HB2.out; first | exact h9 | (rw [← HS0.out]; exact h9)⟩
 ·have hd1 : decide (d < b) = false := decide_eq_false hd
  rw [hd1]
  clear hd
  go_enter Try.func23, Try.ntmps23
  go_wp2_with (first
   | (at_lookup; refine wpList_mapv_look rfl _ _ _ 4 rfl Try.underlying60 tb_zero mb n (resM L) rfl HM.out c rfl HW.out ?_; rw [HV.out]))
  go_ret
  exact ⟨rfl, by have h9 := HB2.out; first | exact h9 | (rw [← HS0.out]; exact h9)⟩
def rsT (L : List Acc) (k : Nat) (c : Int) : Option Value := if c ∈ (L.take k).map (·.code) then some (.bool (resB L c)) else none
theorem rsT_succ {L : List Acc} {k : Nat} (hk : k < L.length) (c : Int) : rsT L (k + 1) c = if c = (L.getD k acc0).code then some (.bool (resB L (L.getD k acc0).code)) else rsT L k c := by
 unfold rsT
 rw [take_succ_getD (d := acc0) hk, List.map_append, List.map_cons, List.map_nil]
 by_cases h : c = (L.getD k acc0).code
 ·rw [if_pos h, if_pos (by simp [h]), h]
 ·rw [if_neg h]
  by_cases h2 : c ∈ (L.take k).map (·.code)
  ·rw [if_pos h2, if_pos (List.mem_append_left _ h2)]
  ·rw [if_neg h2, if_neg (fun h3 => by rcases List.mem_append.1 h3 with h4 | h4; exact h2 h4; simp at h4; exact h h4)]
theorem rsT_all {L : List Acc} (c : Int) : rsT L L.length c = resM L c := by
 unfold rsT resM
 rw [List.take_length]
 by_cases h : c ∈ L.map (·.code)
 ·obtain ⟨a, ha, rfl⟩ := List.mem_map.1 h
  obtain ⟨b, hb⟩ := fnd_is ha
  rw [if_pos h, hb]; rfl
 ·cases hf : fnd L c with
  | none => rw [if_neg h]; rfl
  | some a => exact absurd (List.mem_map.2 ⟨a, (fnd_some hf).1, (fnd_some hf).2⟩) h
def cyJ (b n : Nat) (f g : Int → Option Value) (w0 : World) (k : Nat) (_ : List Value) (W : World) : Prop := Only (fun i => i = b) w0 W ∧ (match k with | 0 => MapV W b n f | _ + 1 => MapV W b (n + 1) g)
theorem cyJ.st (b n : Nat) (f g : Int → Option Value) (w0 : World) : ∀ k l W W', Below W.heap.size W W' → cyJ b n f g w0 k l W → cyJ b n f g w0 k l W'
 | 0, _, _, _, hb, h => ⟨h.1.trans (Only.of hb), h.2.up hb⟩
 | _ + 1, _, _, _, hb, h => ⟨h.1.trans (Only.of hb), h.2.up hb⟩
def VwQ (g : Grp) (L : List Acc) (E p : Int) (e : Ending) (W : World) : Prop := if E = 0 then ∃ mb n, e = .returned (.tuple #[vwV mb (cyB g p) g.r6, .int .i64 0]) ∧ MapV W mb n (resM L) else e = .returned (.tuple #[vw0, .int .i64 E])
def vwFa (mb _s0 sr : Nat) (x : Acc) (GV : Value) (L : List Acc) : List (Nat × AK.Fact (SizeUp)) := [(34, AK.Fact.is (.map (some mb))), (35, AK.Fact.is (.pointer (some ⟨sr, 0, none⟩))), (36, AK.Fact.is (.int .i64 x.code)), (37, AK.Fact.is (GV)), (38, AK.Fact.is (.pointer (some ⟨sr, 0, none⟩))), (39, AK.Fact.is (.int .i64 x.code)), (40, AK.Fact.is (.bool (resB L x.code)))]
theorem grp_codes {g : Grp} {L : List Acc} {G : List Ent} (h : grpP g L G = true) : codesB L = true := by
 have h1 := (grp_parts h).2.1
 unfold vB at h1
 simp only [Bool.and_eq_true] at h1
 exact h1.1.1.1.2
theorem codesB_wfc {L : List Acc} (h : codesB L = true) {a : Acc} (ha : a ∈ L) : (Lit.int .i64 a.code).wf = true := by
 obtain ⟨i, hi, rfl⟩ := mem_getD_acc (d := acc0) ha
 have hs := codesB_srt h
 have h1 := hs.pos i hi
 unfold codesB at h
 rw [Bool.and_eq_true, decide_eq_true_eq] at h
 have h2 : (L.getD i acc0).code ≤ 99999 := by
  obtain ⟨m, hm⟩ : ∃ m, L.length = m + 1 := ⟨L.length - 1, by omega⟩
  have h3 := h.2
  rw [hm, lastC_succ] at h3
  rcases Nat.lt_or_ge i m with h4 | h4
  ·have := hs.mono i m h4 (by omega); omega
  ·obtain rfl : i = m := by omega
   exact h3
 exact wf64 (by omega) (by omega)
set_option maxRecDepth 100000 in
set_option maxHeartbeats 6400000 in
theorem yview_any (g : Grp) (L : List Acc) (G : List Ent) (p : Int) (w : World) (hk : GrK w g L G) (hs : Sm g G) (hw : GrW g L G) : Calls Try.prog 21 #[grpV g, .int .i64 p] w fun e w' => VwQ g L (cyE g L G p) p e w' ∧ Below w.heap.size w w' := by
 obtain ⟨GV, hGV⟩ : ∃ GV, GV = grpV g := ⟨_, rfl⟩
 obtain ⟨gs, hgs⟩ : ∃ gs, (grpC g).toArray = gs := ⟨_, rfl⟩
 obtain ⟨s0, hs0⟩ : ∃ s0, w.heap.size = s0 := ⟨_, rfl⟩
 obtain ⟨w2, hw2⟩ : ∃ w2, (w.alloc (.cells gs 29)).alloc (.cells #[.map none, .int .i64 0, .int .i64 0] 62) = w2 := ⟨_, rfl⟩
 have HGB : Hid (Wh 29 w2 s0 (grpC g)) := Lib.hid (by rw [← hw2, ← hgs, ← hs0]; exact ((Wh.new w 29 (grpC g)).up (below_alloc_new _)))
 have HB2 : Hid (Below w.heap.size w w2) := Lib.hid (by rw [← hw2]; exact below_new (below_alloc_new _) _)
 have HV : Hid (Wh 62 w2 (s0 + 1) [.map none, .int .i64 0, .int .i64 0]) := Lib.hid (by
  rw [← hw2, ← hs0]
  have h9 := (Wh.new (w.alloc (.cells gs 29)) 62 [.map none, .int .i64 0, .int .i64 0])
  simp only [World.size_alloc] at h9
  exact h9)
 have HS0 := Lib.hid hs0
 have HLG : Hid (∀ W, Below w2.heap.size w2 W → (Instr.loadAt 29 (.pointer (some ⟨s0, 0, none⟩))).run Try.prog W = .ok GV W) := Lib.hid (fun W h => by rw [hGV, grpV_is]; exact (HGB.out.up h).rg.load 0 29 (grpC g) rfl _ Try.underlying29 rfl (by kernel_rfl))
 have HBC : Hid (Below w2.heap.size w2 w2) := Lib.hid (Below.refl _ _)
 have HBW : Hid (∀ W, Below w2.heap.size w2 W → Below w.heap.size w W) := Lib.hid (fun W h => HB2.out.trans (h.mono HB2.out.size))
 have HS2 : Hid (s0 + 2 ≤ w2.heap.size) := Lib.hid (by rw [← hw2, ← hs0]; simp)
 have HVL := Lib.hid (fun W (hb : Below w2.heap.size w2 W) => gvalid_any g L G W ((hk.up HB2.out).up hb) hs hw)
 have HRS := Lib.hid (fun c W (hb : Below w2.heap.size w2 W) => gres_any g L c W ((hk.up HB2.out).up hb).hz hk.ln (by have := hs.n; omega))
 have HBG := Lib.hid (fun W => cbegin7_any g.cy g.cm g.cp p W)
 have HLC : Hid (∀ W, Below w2.heap.size w2 W → (Instr.loadAt 23 (.pointer (some ⟨s0, 1, none⟩))).run Try.prog W = .ok (calV g.cy g.cm g.cp) W) := Lib.hid (fun W h => (HGB.out.up h).rg.load 1 23 [.int .i64 g.cy, .int .i64 g.cm, .int .i64 g.cp] rfl _ Try.underlying23 rfl (by kernel_rfl))
 have HC11 : Hid (∀ W, Below w2.heap.size w2 W → W.cell? ⟨s0, 11, none⟩ = some (.int .i64 g.r6)) := Lib.hid (fun W hb => (HGB.out.up hb).at 11 _ rfl)
 have HC4 : Hid (∀ W, Below w2.heap.size w2 W → W.cell? ⟨s0, 4, none⟩ = some (.slice g.A g.n g.c)) := Lib.hid (fun W hb => (HGB.out.up hb).at 4 _ rfl)
 have HZ : Hid (AccAt w2 g.A L) := Lib.hid (hk.hz.up HB2.out)
 have HLN : Hid (L.length = g.n) := Lib.hid hk.ln
 have HN6 : Hid (g.n ≤ 60) := Lib.hid hs.n
 have HGQ : Hid (grpP g L G = true → ∀ a ∈ L, (Lit.int .i64 a.code).wf = true) := Lib.hid (fun h a ha => (codesB_wfc (grp_codes h) ha))
 have hGS : GV = .agg gs := by rw [hGV, grpV_is, hgs]
 rw [← hGV] at HVL HRS ⊢
 rw [hGS]
 clear hGS hGV
 have hcy : cyE g L G p = if grpP g L G = true then clE g.cy g.cm g.cp p else 1 := rfl
 have hcb : cyB g p = pdB g.cy g.cm g.cp p := rfl
 rw [hcy]
 obtain ⟨q, hq⟩ : ∃ q, grpP g L G = q := ⟨_, rfl⟩
 rw [hq] at HVL HGQ ⊢
 obtain ⟨E, hE⟩ : ∃ E, clE g.cy g.cm g.cp p = E := ⟨_, rfl⟩
 rw [hE] at HBG ⊢
 have HCB := Lib.hid hcb
 clear hk hs hw hcy hq hcb
 have HM1 : True := trivial
 cases q
 ·clear hE
  go_enter Try.func21, Try.ntmps21
  go_wp2_with (first
   | (clear HM1; refine wpList_load_is rfl 29 _ rfl (.pointer (some ⟨s0, 0, none⟩)) rfl GV (HLG.out _ HBC.out) ?_)
   | (go_at_call 41; refine (HVL.out _ HBC.out).mono ?_; rintro r w3 ⟨rfl, hb⟩; have hB3 := Lib.hid (HBC.out.trans (hb.mono HBC.out.size)); clear HBC; have HBC := hB3; clear hB3; clear hb)
   | (refine wpList_store_wh rfl 62 _ _ rfl (s0 + 1) rfl 62 [.map none, .int .i64 0, .int .i64 0] [.map none, .int .i64 0, .int .i64 0] rfl (HV.out.up HBC.out) rfl (by kernel_rfl) (by kernel_rfl) ?_; intro w8 hr8 ho8 hz8; have HR8 := Lib.hid hr8.out; have HE8 := Lib.hid (cy_end HB2.out HBC.out ho8.out (by have := HS0.out; omega)); clear hr8 ho8 hz8))
  obtain ⟨z0, z1, z2⟩ : w8.cell? ⟨s0 + 1, 0, none⟩ = some (.map none) ∧ w8.cell? ⟨s0 + 1, 1, none⟩ = some (.int .i64 0) ∧ w8.cell? ⟨s0 + 1, 2, none⟩ = some (.int .i64 0) := ⟨HR8.out.at 0 _ rfl, HR8.out.at 1 _ rfl, HR8.out.at 2 _ rfl⟩
  exact bodyPost_ret (v := .tuple #[vw0, .int .i64 1]) (by simp [results, Try.results21, go_sem, z0, z1, z2]) rfl ⟨by unfold VwQ; rfl, by first | exact HE8.out | (rw [← HS0.out]; exact HE8.out)⟩
 simp only [if_true]
 by_cases hE0 : E = 0
 ·subst hE0
  have HXW := Lib.hid (HGQ.out rfl)
  have z1 : ((0 : Int) != 0) = false := rfl
  have hmm := @run_makeMap Try.prog
  have C4 := HC4.out
  obtain ⟨n, hn⟩ : ∃ n, g.n = n := ⟨_, rfl⟩
  rw [hn] at HC4 HLN HN6
  obtain ⟨gA, hgA⟩ : ∃ gA, g.A = gA := ⟨_, rfl⟩
  rw [hgA] at HC4 HZ
  clear hn C4 hgA
  go_enter Try.func21, Try.ntmps21
  go_wp2_with (first
   | (clear HM1; refine wpList_load_is rfl 29 _ rfl (.pointer (some ⟨s0, 0, none⟩)) rfl GV (HLG.out _ HBC.out) ?_)
   | (go_at_call 41; refine (HVL.out _ HBC.out).mono ?_; rintro r w3 ⟨rfl, hb⟩; have hB3 := Lib.hid (HBC.out.trans (hb.mono HBC.out.size)); clear HBC; have HBC := hB3; clear hB3; clear hb)
   | (refine wpList_load_is rfl 23 _ rfl (.pointer (some ⟨s0, 1, none⟩)) rfl (calV g.cy g.cm g.cp) (HLC.out _ HBC.out) ?_)
   | (go_at_call 42; refine (HBG.out _).mono ?_; rintro r w3 ⟨rfl, hb⟩; have hB3 := Lib.hid (HBC.out.trans (hb.mono HBC.out.size)); clear HBC; have HBC := hB3; clear hB3; have C4 := HC4.out _ (HBC.out.trans ((below_alloc_new (w := w3) (.map #[] 0)).mono HBC.out.size)); clear hb))
  obtain ⟨mb, hmb⟩ : ∃ mb, w3.heap.size = mb := ⟨_, rfl⟩
  have HMB := Lib.hid hmb
  have HM0 : Hid (MapV (w3.alloc (.map #[] 0)) mb 0 (rsT L 0)) := Lib.hid (by rw [← hmb]; exact (MapV.made w3).ext (fun c => rfl))
  have HB3 : Hid (Below mb w3 (w3.alloc (.map #[] 0))) := Lib.hid (by rw [← hmb]; exact below_alloc_new _)
  have HBB := Lib.hid (fun W (h : Below mb w3 W) => HBC.out.trans (h.mono (by rw [← hmb]; exact HBC.out.size)))
  have HMW : Hid (w2.heap.size ≤ mb) := Lib.hid (by rw [← hmb]; exact HBC.out.size)
  rw [hmb]
  clear hmb C4
  go_loopg [30] n (fun kx s30 wr => ∃ k : Nat, s30 = .int .i64 k ∧ k ≤ n ∧ n - k ≤ kx ∧ Hid (MapV wr mb k (rsT L k)) ∧ Hid (Below mb w3 wr))
  case atStart => exact ⟨0, rfl, by omega, by omega, HM0, HB3⟩
  case round =>
   clear HM0 HB3 HBC
   obtain ⟨k, rfl, hk, hkx, HMV, HB3⟩ := hrel
   have HBC := Lib.hid (HBB.out _ HB3.out)
   by_cases hlt : k < n
   ·have hltz : (k : Int) < (n : Int) := by omega
    obtain ⟨bb, off, hA, hbw, hcs⟩ := HZ.out (by rw [HLN.out]; omega)
    have HA4 := Lib.hid (hcs k (by rw [HLN.out]; exact hlt))
    have HWX := Lib.hid (HXW.out _ (getD_mem_acc (d := acc0) (i := k) (by rw [HLN.out]; exact hlt)))
    have HTK := Lib.hid (fun c => rsT_succ (L := L) (k := k) (by rw [HLN.out]; exact hlt) c)
    generalize L.getD k acc0 = x at *
    obtain ⟨r0, r1, r2, r3⟩ := HA4.out.up HBC.out hbw
    have HNX : Hid (k ≤ 60) := Lib.hid (by have := HN6.out; omega)
    subst hA
    clear hcs
    go_upto_region 10 with fail
    obtain ⟨sr, hsr⟩ : ∃ sr, wr.heap.size = sr := ⟨_, rfl⟩
    obtain ⟨W5, hW5⟩ : ∃ W5, wr.alloc (.cells #[.int .i64 x.code, .int .i64 x.kind, .int .i64 x.basis, .int .i64 x.par] 52) = W5 := ⟨_, rfl⟩
    have HAB : Hid (Wh 52 W5 sr [.int .i64 x.code, .int .i64 x.kind, .int .i64 x.basis, .int .i64 x.par]) := Lib.hid (by rw [← hW5, ← hsr]; exact Wh.new wr _ _)
    have HB5 : Hid (Below wr.heap.size wr W5) := Lib.hid (by rw [← hW5]; exact below_alloc_new _)
    have HMV5 := Lib.hid (HMV.out.up HB5.out)
    have HNA : Hid (¬ sr = mb) := Lib.hid (by have := HMV.out.lt; omega)
    have HBC5 := Lib.hid (HBC.out.trans (HB5.out.mono HBC.out.size))
    have HB35 := Lib.hid (HB3.out.trans (HB5.out.mono (by have := HB3.out.size; have := HMB.out; omega)))
    have HJB : Hid (∀ W, Only (fun i => i = mb) W5 W → Below w2.heap.size w2 W) := Lib.hid (fun W h => HBC5.out.trans (h.below (fun k hk => by have := HMW.out; omega) HBC5.out.size))
    have HJ3 : Hid (∀ W, Only (fun i => i = mb) W5 W → Below mb w3 W) := Lib.hid (fun W h => HB35.out.trans (h.below (fun k hk => by omega) (by have := HB35.out.size; have := HMB.out; omega)))
    rw [hW5, hsr]
    clear hW5 hsr r0 r1 r2 r3 HB5 HB35 HBC5 HMV HB3 HBC hbw
    refine AK.region_facts (Rp := Below0) (Kp := SizeUp) (vwFa mb s0 sr x GV L) (cyJ mb k (rsT L k) (fun c => if c = x.code then some (.bool (resB L x.code)) else rsT L k c) W5) [[], [], [35], [], [], [38], [37, 39], [34, 36, 40]] [7] [[], []] [0, 0, 0, 0, 0, 0, 0, 1] [0, 0, 0, 0, 0, 0, 0, 0] [] (fun u => by simp only [vwFa, AK.temps, List.map_cons, List.map_nil, fillL, List.setIfInBounds_toArray, List.set_cons_zero, List.set_cons_succ]; rfl) (by kernel_rfl) (by kernel_rfl) (fun _ _ h => h) (fun _ _ h => h.size) (cyJ.st _ _ _ _ _) (⟨(Only.refl _).drew, HMV5.out.up (dc_drew (Below.refl _ _))⟩) ?_ ?_
    ·refine AK.sc (lim := 0) (lo := 0) rfl rfl rfl rfl ?_ ?_
     ·intro k_ u w_ hk_ hl_ hJ hF K hK
      obtain rfl : k_ = 0 := by omega
      clear hF
      go_simp
      exact hK.out _ _ (Below.refl _ _) (rfl) trivial
     refine AK.sc (lim := 0) (lo := 0) rfl rfl rfl rfl ?_ ?_
     ·intro k_ u w_ hk_ hl_ hJ hF K hK
      obtain rfl : k_ = 0 := by omega
      clear hF
      go_simp
      exact hK.out _ _ (Below.refl _ _) (rfl) trivial
     refine AK.sc (lim := 0) (lo := 0) rfl rfl rfl rfl ?_ ?_
     ·intro k_ u w_ hk_ hl_ hJ hF K hK
      obtain rfl : k_ = 0 := by omega
      have h35 : u 35 = .pointer (some ⟨sr, 0, none⟩) := AK.facts_get hF 35 (by simp)
      clear hF
      simp only [h35] at hK ⊢
      clear h35
      have c_ := (HAB.out.only hJ.1 HNA.out).at 0 _ rfl
      go_simp
      exact hK.out _ _ (Below.refl _ _) (rfl) trivial
     refine AK.sc (lim := 0) (lo := 0) rfl rfl rfl rfl ?_ ?_
     ·intro k_ u w_ hk_ hl_ hJ hF K hK
      obtain rfl : k_ = 0 := by omega
      clear hF
      refine wp_load_is 29 _ rfl (.pointer (some ⟨s0, 0, none⟩)) rfl GV (HLG.out _ (HJB.out _ hJ.1)) ?_
      exact hK.out _ _ (Below.refl _ _) rfl trivial
     refine AK.sc (lim := 0) (lo := 0) rfl rfl rfl rfl ?_ ?_
     ·intro k_ u w_ hk_ hl_ hJ hF K hK
      obtain rfl : k_ = 0 := by omega
      clear hF
      go_simp
      exact hK.out _ _ (Below.refl _ _) (rfl) trivial
     refine AK.sc (lim := 0) (lo := 0) rfl rfl rfl rfl ?_ ?_
     ·intro k_ u w_ hk_ hl_ hJ hF K hK
      obtain rfl : k_ = 0 := by omega
      have h38 : u 38 = .pointer (some ⟨sr, 0, none⟩) := AK.facts_get hF 38 (by simp)
      clear hF
      simp only [h38] at hK ⊢
      clear h38
      have c_ := (HAB.out.only hJ.1 HNA.out).at 0 _ rfl
      go_simp
      exact hK.out _ _ (Below.refl _ _) (rfl) trivial
     refine AK.sc (lim := 0) (lo := 0) rfl rfl rfl rfl ?_ ?_
     ·intro k_ u w_ hk_ hl_ hJ hF K hK
      obtain rfl : k_ = 0 := by omega
      have h37 : u 37 = GV := AK.facts_get hF 37 (by simp)
      have h39 : u 39 = .int .i64 x.code := AK.facts_get hF 39 (by simp)
      clear hF
      simp only [h37, h39] at hK ⊢
      clear h37 h39
      go_simp
      refine (HRS.out x.code _ (HJB.out _ hJ.1)).mono ?_
      rintro r w6 ⟨rfl, hb6⟩
      exact hK.out _ _ hb6 rfl trivial
     refine AK.ss rfl rfl ?_ ?_
     ·intro u w_ hJ hA_ hF K hK
      have h34 : u 34 = .map (some mb) := AK.facts_get hF 34 (by simp)
      have h36 : u 36 = .int .i64 x.code := AK.facts_get hF 36 (by simp)
      have h40 : u 40 = .bool (resB L x.code) := AK.facts_get hF 40 (by simp)
      clear hF
      simp only [h34, h36, h40] at hK ⊢
      clear h34 h36 h40
      have hJ1 := hJ.1
      refine wp_mapg_put 60 4 Try.underlying60 _ _ _ rfl mb k (rsT L k) rfl hJ.2 x.code rfl (.bool (resB L x.code)) rfl HWX.out (by have := HNX.out; omega) ?_
      intro w' hm' hg'
      exact hK.out _ _ ⟨hJ1.trans (Only.grown hg' (fun k hk => by injection hk with hk; exact hk.symm)), hm'⟩ (hg'.size) trivial
     exact AK.StepsOk.nil
    ·intro u W9 hJ9 hF
     clear hF
     have HMV9 : Hid (MapV W9 mb (k + 1) (rsT L (k + 1))) := Lib.hid (hJ9.2.ext (fun c => HTK.out c))
     have HB9 := Lib.hid (HJ3.out _ hJ9.1)
     clear hJ9
     have hk60 := HNX.out
     go_wp2_with fail
     go_roundg (n - (k + 1))
     case measure => omega
     case rel => exact ⟨k + 1, by go_num, by omega, by omega, HMV9, HB9⟩
   ·obtain rfl : k = n := by omega
    have hltz : ¬ (k : Int) < (k : Int) := by omega
    have HME : Hid (MapV wr mb k (resM L)) := Lib.hid (HMV.out.ext (fun c => by rw [← HLN.out]; exact (rsT_all c).symm))
    have C11 := HC11.out _ HBC.out
    obtain ⟨b, hb⟩ : ∃ b, pdB g.cy g.cm g.cp p = b := ⟨_, rfl⟩
    rw [hb] at HCB ⊢
    clear hb
    go_wp2_with (first
     | (refine wpList_store_wh rfl 62 _ _ rfl (s0 + 1) rfl 62 [.map none, .int .i64 0, .int .i64 0] (vwC mb b g.r6) rfl (HV.out.up HBC.out) rfl (by kernel_rfl) (by kernel_rfl) ?_; intro w8 hr8 ho8 hz8; have HR8 := Lib.hid hr8.out; have HE8 := Lib.hid (cy_end HB2.out HBC.out ho8.out (by have := HS0.out; omega)); have HM8 := Lib.hid (HME.out.blk (ho8.out.blk mb HME.out.lt (by show ¬ mb = s0 + 1; have := HMW.out; have := HS2.out; omega))); clear hr8 ho8 hz8))
    obtain ⟨z0, z1, z2⟩ : w8.cell? ⟨s0 + 1, 0, none⟩ = some (.map (some mb)) ∧ w8.cell? ⟨s0 + 1, 1, none⟩ = some (.int .i64 b) ∧ w8.cell? ⟨s0 + 1, 2, none⟩ = some (.int .i64 g.r6) := ⟨HR8.out.at 0 _ rfl, HR8.out.at 1 _ rfl, HR8.out.at 2 _ rfl⟩
    exact bodyPost_ret (v := .tuple #[vwV mb b g.r6, .int .i64 0]) (by simp [results, Try.results21, go_sem, z0, z1, z2]) rfl ⟨⟨mb, k, by rw [HCB.out], HM8.out⟩, by first | exact HE8.out | (rw [← HS0.out]; exact HE8.out)⟩
 ·have hEn : (E != 0) = true := by simp [hE0]
  have HEN := Lib.hid hE0
  clear hE hE0
  go_enter Try.func21, Try.ntmps21
  go_wp2_with (first
   | (clear HM1; refine wpList_load_is rfl 29 _ rfl (.pointer (some ⟨s0, 0, none⟩)) rfl GV (HLG.out _ HBC.out) ?_)
   | (go_at_call 41; refine (HVL.out _ HBC.out).mono ?_; rintro r w3 ⟨rfl, hb⟩; have hB3 := Lib.hid (HBC.out.trans (hb.mono HBC.out.size)); clear HBC; have HBC := hB3; clear hB3; clear hb)
   | (refine wpList_load_is rfl 23 _ rfl (.pointer (some ⟨s0, 1, none⟩)) rfl (calV g.cy g.cm g.cp) (HLC.out _ HBC.out) ?_)
   | (go_at_call 42; refine (HBG.out _).mono ?_; rintro r w3 ⟨rfl, hb⟩; have hB3 := Lib.hid (HBC.out.trans (hb.mono HBC.out.size)); clear HBC; have HBC := hB3; clear hB3; clear hb)
   | (refine wpList_store_wh rfl 62 _ _ rfl (s0 + 1) rfl 62 [.map none, .int .i64 0, .int .i64 0] [.map none, .int .i64 0, .int .i64 0] rfl (HV.out.up HBC.out) rfl (by kernel_rfl) (by kernel_rfl) ?_; intro w8 hr8 ho8 hz8; have HR8 := Lib.hid hr8.out; have HE8 := Lib.hid (cy_end HB2.out HBC.out ho8.out (by have := HS0.out; omega)); clear hr8 ho8 hz8))
  obtain ⟨z0, z1, z2⟩ : w8.cell? ⟨s0 + 1, 0, none⟩ = some (.map none) ∧ w8.cell? ⟨s0 + 1, 1, none⟩ = some (.int .i64 0) ∧ w8.cell? ⟨s0 + 1, 2, none⟩ = some (.int .i64 0) := ⟨HR8.out.at 0 _ rfl, HR8.out.at 1 _ rfl, HR8.out.at 2 _ rfl⟩
  exact bodyPost_ret (v := .tuple #[vw0, .int .i64 E]) (by simp [results, Try.results21, go_sem, z0, z1, z2]) rfl ⟨by unfold VwQ; rw [if_neg HEN.out], by first | exact HE8.out | (rw [← HS0.out]; exact HE8.out)⟩
theorem kno_no {L : List Acc} {X : List Lnk} {k : Nat} (hk : k < X.length) (h : (fnd L (X.getD k lnk0).frm).isSome = false) : cvN L X = 8 := by
 unfold cvN knoB
 rw [all_false_getD (d := lnk0) hk h]; rfl
theorem kno_yes {L : List Acc} {X : List Lnk} (h : ∀ i, i < X.length → (fnd L (X.getD i lnk0).frm).isSome = true) : cvN L X = if amsB X = true then 0 else 1 := by
 unfold cvN knoB
 rw [(all_getD (d := lnk0)).2 h]; rfl
theorem ams_no {X : List Lnk} {k : Nat} (hk : k < X.length) (h : amtB (X.getD k lnk0).since = false) : amsB X = false := all_false_getD (d := lnk0) hk h
theorem ams_yes {X : List Lnk} (h : ∀ i, i < X.length → amtB (X.getD i lnk0).since = true) : amsB X = true := (all_getD (d := lnk0)).2 h
set_option maxRecDepth 100000 in
set_option maxHeartbeats 6400000 in
theorem ychk_any (L : List Acc) (mb n9 : Nat) (b r : Int) (A : Option Addr) (c : Nat) (X : List Lnk) (w : World) (hm : MapV w mb n9 (resM L)) (hz : LnkAt w A X) (hl : X.length ≤ 1000000) (hw : ∀ d ∈ X, (Lit.int .i64 d.frm).wf = true) : Calls Try.prog 46 #[vwV mb b r, .slice A X.length c] w fun e w' => e = .returned (.int .i64 (cvN L X)) ∧ Below w.heap.size w w' := by
 obtain ⟨s0, hs0⟩ : ∃ s0, w.heap.size = s0 := ⟨_, rfl⟩
 obtain ⟨w2, hw2⟩ : ∃ w2, w.alloc (.cells #[.map (some mb), .int .i64 b, .int .i64 r] 62) = w2 := ⟨_, rfl⟩
 have HXB : Hid (Wh 62 w2 s0 (vwC mb b r)) := Lib.hid (by rw [← hw2, ← hs0]; exact Wh.new w _ _)
 have HB2 : Hid (Below w.heap.size w w2) := Lib.hid (by rw [← hw2]; exact below_alloc_new _)
 have HS0 := Lib.hid hs0
 have HBC : Hid (Below w2.heap.size w2 w2) := Lib.hid (Below.refl _ _)
 have HBW : Hid (∀ W, Below w2.heap.size w2 W → Below w.heap.size w W) := Lib.hid (fun W h => HB2.out.trans (h.mono HB2.out.size))
 have HM := Lib.hid (hm.up HB2.out)
 have HLV : Hid (∀ W, Below w2.heap.size w2 W → (Instr.loadAt 62 (.pointer (some ⟨s0, 0, none⟩))).run Try.prog W = .ok (vwV mb b r) W) := Lib.hid (fun W h => (HXB.out.up h).rg.load 0 62 (vwC mb b r) rfl _ Try.underlying62 rfl (by kernel_rfl))
 have HHA : Hid (∀ W x, Below w2.heap.size w2 W → (Lit.int .i64 x).wf = true → Calls Try.prog 22 #[vwV mb b r, .int .i64 x] W fun e w' => e = .returned (.bool (fnd L x).isSome) ∧ Below W.heap.size W w') := Lib.hid (fun W x hb hx => yhas_any L mb n9 b r x W (HM.out.up hb) hx)
 have HZ := Lib.hid (hz.up HB2.out)
 have HWF := Lib.hid hw
 have HNO := Lib.hid (fun k hk h => kno_no (L := L) (X := X) (k := k) hk h)
 have HYE := Lib.hid (fun h => kno_yes (L := L) (X := X) h)
 obtain ⟨E, hE⟩ : ∃ E, cvN L X = E := ⟨_, rfl⟩
 rw [hE] at HNO HYE ⊢
 obtain ⟨n, hn⟩ : ∃ n, X.length = n := ⟨_, rfl⟩
 have HN := Lib.hid hn
 rw [hn] at HNO HYE hl ⊢
 obtain ⟨VV, hVV⟩ : ∃ VV, VV = vwV mb b r := ⟨_, rfl⟩
 rw [← hVV] at HLV HHA
 clear hm hz hw hE hn hVV
 go_enter Try.func46, Try.ntmps46
 go_wp2_with fail
 go_loopg [11] n (fun kx s11 wr => ∃ k : Nat, s11 = .int .i64 k ∧ k ≤ n ∧ n - k ≤ kx ∧ Hid (∀ i, i < k → (fnd L (X.getD i lnk0).frm).isSome = true) ∧ Hid (Below w2.heap.size w2 wr))
 case atStart => exact ⟨0, rfl, by omega, by omega, Lib.hid (fun i h => absurd h (by omega)), HBC⟩
 case round =>
  clear HBC
  obtain ⟨k, rfl, hk, hkx, HK, HBC⟩ := hrel
  by_cases hlt : k < n
  ·have hltz : (k : Int) < (n : Int) := by omega
   obtain ⟨bb, off, hA, hbw, hcs⟩ := HZ.out (by rw [HN.out]; omega)
   have HA3 := Lib.hid (hcs k (by rw [HN.out]; exact hlt))
   have HWX := Lib.hid (HWF.out _ (getD_mem_acc (d := lnk0) (i := k) (by rw [HN.out]; exact hlt)))
   have hno := HNO.out k hlt
   have HKS : Hid ((fnd L (X.getD k lnk0).frm).isSome = true → ∀ i, i < k + 1 → (fnd L (X.getD i lnk0).frm).isSome = true) := Lib.hid (fun h i hi => by
    rcases Nat.lt_or_ge i k with h9 | h9
    ·exact HK.out i h9
    ·obtain rfl : i = k := by omega
     exact h)
   obtain ⟨x, hx⟩ : ∃ x, X.getD k lnk0 = x := ⟨_, rfl⟩
   rw [hx] at HA3 HWX hno HKS
   obtain ⟨r0, r1, r2⟩ := HA3.out.up HBC.out hbw
   obtain ⟨q, hq⟩ : ∃ q, (fnd L x.frm).isSome = q := ⟨_, rfl⟩
   have HHX := Lib.hid (fun W hb => HHA.out W x.frm hb HWX.out)
   rw [hq] at hno HKS HHX
   subst hA
   have HB5 : Hid (Below w2.heap.size w2 (wr.alloc (.cells #[.int .i64 x.frm, .int .i64 x.tgt, .int .i64 x.since] 70))) := Lib.hid (below_new HBC.out _)
   have HC5 : Hid (Wh 70 (wr.alloc (.cells #[.int .i64 x.frm, .int .i64 x.tgt, .int .i64 x.since] 70)) wr.heap.size [.int .i64 x.frm, .int .i64 x.tgt, .int .i64 x.since]) := Lib.hid (Wh.new wr _ _)
   have y0 := HC5.out.at 0 _ rfl
   clear HBC hcs hx hq
   have HBC := HB5
   clear HB5
   have HM1 : True := trivial
   cases q
   ·have HE := Lib.hid (hno rfl)
    clear hno
    go_wp2_with (first
     | (clear HM1; refine wpList_load_is rfl 62 _ rfl (.pointer (some ⟨s0, 0, none⟩)) rfl VV (HLV.out _ HBC.out) ?_)
     | (go_at_call 22; refine (HHX.out _ HBC.out).mono ?_; rintro r w3 ⟨rfl, hb⟩; have hB3 := Lib.hid (HBC.out.trans (hb.mono HBC.out.size)); clear HBC; have HBC := hB3; clear hB3; clear hb))
    go_ret
    exact ⟨by rw [HE.out]; rfl, by have h9 := HBW.out _ HBC.out; first | exact h9 | (rw [← HS0.out]; exact h9)⟩
   ·clear hno
    go_wp2_with (first
     | (clear HM1; refine wpList_load_is rfl 62 _ rfl (.pointer (some ⟨s0, 0, none⟩)) rfl VV (HLV.out _ HBC.out) ?_)
     | (go_at_call 22; refine (HHX.out _ HBC.out).mono ?_; rintro r w3 ⟨rfl, hb⟩; have hB3 := Lib.hid (HBC.out.trans (hb.mono HBC.out.size)); clear HBC; have HBC := hB3; clear hB3; clear hb))
    go_roundg (n - (k + 1))
    case measure => omega
    case rel => exact ⟨k + 1, by go_num, by omega, by omega, Lib.hid (HKS.out (by simp)), HBC⟩
  ·obtain rfl : k = n := by omega
   have hltz : ¬ (k : Int) < (k : Int) := by omega
   have HYF := Lib.hid (HYE.out HK.out)
   have HBB := HBC
   clear HYE HNO HK
   go_wp2_with fail
   go_loopg [23] k (fun kx s23 wr => ∃ j : Nat, s23 = .int .i64 j ∧ j ≤ k ∧ k - j ≤ kx ∧ Hid (∀ i, i < j → amtB (X.getD i lnk0).since = true) ∧ Hid (Below w2.heap.size w2 wr))
   case atStart => exact ⟨0, rfl, by omega, by omega, Lib.hid (fun i h => absurd h (by omega)), HBC⟩
   case round =>
    clear HBC HBB
    rename World => wr
    obtain ⟨j, rfl, hj, hjx, HK, HBC⟩ := hrel
    by_cases hlt : j < k
    ·have hltz : (j : Int) < (k : Int) := by omega
     obtain ⟨bb, off, hA, hbw, hcs⟩ := HZ.out (by rw [HN.out]; omega)
     have HA3 := Lib.hid (hcs j (by rw [HN.out]; exact hlt))
     have hno := ams_no (X := X) (k := j) (by rw [HN.out]; exact hlt)
     have HKS : Hid (amtB (X.getD j lnk0).since = true → ∀ i, i < j + 1 → amtB (X.getD i lnk0).since = true) := Lib.hid (fun h i hi => by
      rcases Nat.lt_or_ge i j with h9 | h9
      ·exact HK.out i h9
      ·obtain rfl : i = j := by omega
       exact h)
     obtain ⟨x, hx⟩ : ∃ x, X.getD j lnk0 = x := ⟨_, rfl⟩
     rw [hx] at HA3 hno HKS
     obtain ⟨r0, r1, r2⟩ := HA3.out.up HBC.out hbw
     have HAM := Lib.hid (fun W => ysamt_any x.since W)
     obtain ⟨q, hq⟩ : ∃ q, amtB x.since = q := ⟨_, rfl⟩
     rw [hq] at hno HKS HAM
     subst hA
     have HB5 : Hid (Below w2.heap.size w2 (wr.alloc (.cells #[.int .i64 x.frm, .int .i64 x.tgt, .int .i64 x.since] 70))) := Lib.hid (below_new HBC.out _)
     have HC5 : Hid (Wh 70 (wr.alloc (.cells #[.int .i64 x.frm, .int .i64 x.tgt, .int .i64 x.since] 70)) wr.heap.size [.int .i64 x.frm, .int .i64 x.tgt, .int .i64 x.since]) := Lib.hid (Wh.new wr _ _)
     have y2 := HC5.out.at 2 _ rfl
     clear HBC hcs hx hq
     have HBC := HB5
     clear HB5
     cases q
     ·have HE := Lib.hid (hno rfl)
      clear hno
      go_wp2_with (first
       | (go_at_call 66; refine (HAM.out _).mono ?_; rintro r w3 ⟨rfl, rfl⟩))
      go_ret
      exact ⟨by rw [HYF.out, HE.out]; rfl, by have h9 := HBW.out _ HBC.out; first | exact h9 | (rw [← HS0.out]; exact h9)⟩
     ·clear hno
      go_wp2_with (first
       | (go_at_call 66; refine (HAM.out _).mono ?_; rintro r w3 ⟨rfl, rfl⟩))
      go_roundg (k - (j + 1))
      case measure => omega
      case rel => exact ⟨j + 1, by go_num, by omega, by omega, Lib.hid (HKS.out (by simp)), HBC⟩
    ·obtain rfl : j = k := by omega
     have hltz : ¬ (j : Int) < (j : Int) := by omega
     have HE := Lib.hid (ams_yes (X := X) (by rw [HN.out]; exact HK.out))
     go_wp2_with fail
     go_ret
     exact ⟨by rw [HYF.out, HE.out]; rfl, by have h9 := HBW.out _ HBC.out; first | exact h9 | (rw [← HS0.out]; exact h9)⟩
set_option maxRecDepth 100000 in
set_option maxHeartbeats 6400000 in
theorem yviewall_any (g : Grp) (L : List Acc) (G : List Ent) (A : Option Addr) (c : Nat) (X : List Lnk) (p : Int) (w : World) (hk : GrK w g L G) (hs : Sm g G) (hw : GrW g L G) (hz : LnkAt w A X) (hl : X.length ≤ 1000) (hx : ∀ d ∈ X, (Lit.int .i64 d.frm).wf = true) : Calls Try.prog 31 #[grpV g, .slice A X.length c, .int .i64 p] w fun e w' => VwQ g L (cvE g L G X p) p e w' ∧ Below w.heap.size w w' := by
 obtain ⟨GV, hGV⟩ : ∃ GV, GV = grpV g := ⟨_, rfl⟩
 obtain ⟨gs, hgs⟩ : ∃ gs, (grpC g).toArray = gs := ⟨_, rfl⟩
 obtain ⟨s0, hs0⟩ : ∃ s0, w.heap.size = s0 := ⟨_, rfl⟩
 obtain ⟨w2, hw2⟩ : ∃ w2, (w.alloc (.cells gs 29)).alloc (.cells #[.map none, .int .i64 0, .int .i64 0] 62) = w2 := ⟨_, rfl⟩
 have HGB : Hid (Wh 29 w2 s0 (grpC g)) := Lib.hid (by rw [← hw2, ← hgs, ← hs0]; exact ((Wh.new w 29 (grpC g)).up (below_alloc_new _)))
 have HB2 : Hid (Below w.heap.size w w2) := Lib.hid (by rw [← hw2]; exact below_new (below_alloc_new _) _)
 have HV : Hid (Wh 62 w2 (s0 + 1) [.map none, .int .i64 0, .int .i64 0]) := Lib.hid (by
  rw [← hw2, ← hs0]
  have h9 := (Wh.new (w.alloc (.cells gs 29)) 62 [.map none, .int .i64 0, .int .i64 0])
  simp only [World.size_alloc] at h9
  exact h9)
 have HS0 := Lib.hid hs0
 have HLG : Hid (∀ W, Below w2.heap.size w2 W → (Instr.loadAt 29 (.pointer (some ⟨s0, 0, none⟩))).run Try.prog W = .ok GV W) := Lib.hid (fun W h => by rw [hGV, grpV_is]; exact (HGB.out.up h).rg.load 0 29 (grpC g) rfl _ Try.underlying29 rfl (by kernel_rfl))
 have HBC : Hid (Below w2.heap.size w2 w2) := Lib.hid (Below.refl _ _)
 have HBW : Hid (∀ W, Below w2.heap.size w2 W → Below w.heap.size w W) := Lib.hid (fun W h => HB2.out.trans (h.mono HB2.out.size))
 have HS2 : Hid (s0 + 2 ≤ w2.heap.size) := Lib.hid (by rw [← hw2, ← hs0]; simp)
 have HVO := Lib.hid (fun W (hb : Below w2.heap.size w2 W) => yview_any g L G p W ((hk.up HB2.out).up hb) hs hw)
 have HCK := Lib.hid (fun W mb n9 b r (hb : Below w2.heap.size w2 W) (hm : MapV W mb n9 (resM L)) => ychk_any L mb n9 b r A c X W hm ((hz.up HB2.out).up hb) (by omega) hx)
 have hGS : GV = .agg gs := by rw [hGV, grpV_is, hgs]
 rw [← hGV] at HVO ⊢
 rw [hGS]
 clear hGS hGV
 have hcv : cvE g L G X p = if cyE g L G p = 0 then cvN L X else cyE g L G p := rfl
 rw [hcv]
 obtain ⟨E, hE⟩ : ∃ E, cyE g L G p = E := ⟨_, rfl⟩
 rw [hE] at HVO ⊢
 obtain ⟨N, hN⟩ : ∃ N, cvN L X = N := ⟨_, rfl⟩
 rw [hN] at HCK ⊢
 clear hk hs hw hz hx hcv hE hN hl
 have HM1 : True := trivial
 by_cases hE0 : E = 0
 ·subst hE0
  have HVP : Hid (∀ W, Below w2.heap.size w2 W → Calls Try.prog 21 #[GV, .int .i64 p] W fun e w' => (∃ mb n, e = .returned (.tuple #[vwV mb (cyB g p) g.r6, .int .i64 0]) ∧ MapV w' mb n (resM L)) ∧ Below W.heap.size W w') := Lib.hid (fun W hb => (HVO.out W hb).mono fun e w' ⟨h1, h2⟩ => ⟨by unfold VwQ at h1; rw [if_pos rfl] at h1; exact h1, h2⟩)
  simp only [if_true]
  obtain ⟨b, hb⟩ : ∃ b, cyB g p = b := ⟨_, rfl⟩
  rw [hb] at HVP
  obtain ⟨r6, hr6⟩ : ∃ r6, g.r6 = r6 := ⟨_, rfl⟩
  rw [hr6] at HVP
  have HVQ : Hid (∀ mb n W N e, ((N = 0 → e = .returned (.tuple #[vwV mb b r6, .int .i64 0]) ∧ MapV W mb n (resM L)) ∧ (N ≠ 0 → e = .returned (.tuple #[vw0, .int .i64 N]))) → VwQ g L N p e W) := Lib.hid (fun mb n W N e h => by
   unfold VwQ
   by_cases h0 : N = 0
   ·rw [if_pos h0]; obtain ⟨h1, h2⟩ := h.1 h0; exact ⟨mb, n, by rw [hb, hr6]; exact h1, h2⟩
   ·rw [if_neg h0]; exact h.2 h0)
  clear hb hr6 HVO
  have HM2 : True := trivial
  have HM3 : True := trivial
  have HM4 : True := trivial
  by_cases hN0 : N = 0
  ·subst hN0
   have z1 : ((0 : Int) != 0) = false := rfl
   have z2 : ((0 : Int) == 0) = true := rfl
   go_enter Try.func31, Try.ntmps31
   go_wp2_with (first
    | (clear HM1; refine wpList_load_is rfl 29 _ rfl (.pointer (some ⟨s0, 0, none⟩)) rfl GV (HLG.out _ HBC.out) ?_)
    | (go_at_call 21; refine (HVP.out _ HBC.out).mono ?_; rintro r w3 ⟨⟨mb, n9, rfl, hm3⟩, hb⟩; have hB3 := Lib.hid (HBC.out.trans (hb.mono HBC.out.size)); clear HBC hb; have HBC := hB3; clear hB3; have HM3 := Lib.hid hm3; clear hm3; obtain ⟨sv, hsv⟩ : ∃ sv, w3.heap.size = sv := ⟨_, rfl⟩; have HSV := Lib.hid hsv)
    | (clear HM2; refine wpList_store_wh rfl 62 _ _ rfl sv rfl 62 [.map none, .int .i64 0, .int .i64 0] (vwC mb b r6) rfl (by rw [← HSV.out]; exact Wh.new w3 62 [.map none, .int .i64 0, .int .i64 0]) rfl (by kernel_rfl) (by kernel_rfl) ?_; intro w5 hr5 ho5 hz5; have HR5 := Lib.hid hr5.out; have hb5 : Below w3.heap.size w3 w5 := only_new (by rw [HSV.out]; exact ho5.out); have HM5 := Lib.hid (HM3.out.up hb5); have hB3 := Lib.hid (HBC.out.trans (hb5.mono HBC.out.size)); clear HBC HM3 hr5 ho5 hz5 hb5; have HBC := hB3; clear hB3; obtain ⟨VV, hVV⟩ : ∃ VV, VV = vwV mb b r6 := ⟨_, rfl⟩; have HLV : Hid (∀ W, Below w5.heap.size w5 W → (Instr.loadAt 62 (.pointer (some ⟨sv, 0, none⟩))).run Try.prog W = .ok VV W) := Lib.hid (fun W h => by rw [hVV]; exact (HR5.out.up h).rg.load 0 62 (vwC mb b r6) rfl _ Try.underlying62 rfl (by kernel_rfl)); have HC5 := Lib.hid (HCK.out w5 mb n9 b r6 HBC.out HM5.out); rw [← hVV] at HC5; have HVV := Lib.hid hVV; clear hVV; have HB5 : Hid (Below w5.heap.size w5 w5) := Lib.hid (Below.refl _ _))
    | (clear HM3; refine wpList_load_is rfl 62 _ rfl (.pointer (some ⟨sv, 0, none⟩)) rfl VV (HLV.out _ HB5.out) ?_)
    | (go_at_call 46; refine HC5.out.mono ?_; rintro r w6 ⟨rfl, hb⟩; have hB3 := Lib.hid (HBC.out.trans (hb.mono HBC.out.size)); clear HBC; have HBC := hB3; clear hB3; have HB6 := Lib.hid (HB5.out.trans hb); clear HB5; have HB5 := HB6; clear HB6; have HM6 := Lib.hid (HM5.out.up hb); clear hb; have HNE : Hid (¬ mb = s0 + 1) := Lib.hid (fun e => by obtain ⟨D9, ⟨es9, k9, h8, -⟩, -⟩ := HM6.out; have h7 := (HV.out.up HBC.out).blk; rw [← e, h8] at h7; cases h7))
    | (clear HM4; refine wpList_load_is rfl 62 _ rfl (.pointer (some ⟨sv, 0, none⟩)) rfl (vwV mb b r6) (by rw [← HVV.out]; exact HLV.out _ HB5.out) ?_)
    | (refine wpList_store_wh rfl 62 _ _ rfl (s0 + 1) rfl 62 [.map none, .int .i64 0, .int .i64 0] (vwC mb b r6) rfl (HV.out.up HBC.out) rfl (by kernel_rfl) (by kernel_rfl) ?_; intro w8 hr8 ho8 hz8; have HR8 := Lib.hid hr8.out; have HE8 := Lib.hid (cy_end HB2.out HBC.out ho8.out (by have := HS0.out; omega)); have HM8 := Lib.hid (HM6.out.blk (ho8.out.blk mb HM6.out.lt (HNE.out))); clear hr8 ho8 hz8))
   obtain ⟨z0, z1, z2⟩ : w8.cell? ⟨s0 + 1, 0, none⟩ = some (.map (some mb)) ∧ w8.cell? ⟨s0 + 1, 1, none⟩ = some (.int .i64 b) ∧ w8.cell? ⟨s0 + 1, 2, none⟩ = some (.int .i64 r6) := ⟨HR8.out.at 0 _ rfl, HR8.out.at 1 _ rfl, HR8.out.at 2 _ rfl⟩
   exact bodyPost_ret (v := .tuple #[vwV mb b r6, .int .i64 0]) (by simp [results, Try.results31, go_sem, z0, z1, z2]) rfl ⟨HVQ.out mb n9 _ _ _ ⟨fun _ => ⟨rfl, HM8.out⟩, fun h => absurd rfl h⟩, by first | exact HE8.out | (rw [← HS0.out]; exact HE8.out)⟩
  ·have z1 : (N != 0) = true := by simp [hN0]
   have z2 : ((0 : Int) == 0) = true := rfl
   have HNN := Lib.hid hN0
   clear hN0
   go_enter Try.func31, Try.ntmps31
   go_wp2_with (first
    | (clear HM1; refine wpList_load_is rfl 29 _ rfl (.pointer (some ⟨s0, 0, none⟩)) rfl GV (HLG.out _ HBC.out) ?_)
    | (go_at_call 21; refine (HVP.out _ HBC.out).mono ?_; rintro r w3 ⟨⟨mb, n9, rfl, hm3⟩, hb⟩; have hB3 := Lib.hid (HBC.out.trans (hb.mono HBC.out.size)); clear HBC hb; have HBC := hB3; clear hB3; have HM3 := Lib.hid hm3; clear hm3; obtain ⟨sv, hsv⟩ : ∃ sv, w3.heap.size = sv := ⟨_, rfl⟩; have HSV := Lib.hid hsv)
    | (clear HM2; refine wpList_store_wh rfl 62 _ _ rfl sv rfl 62 [.map none, .int .i64 0, .int .i64 0] (vwC mb b r6) rfl (by rw [← HSV.out]; exact Wh.new w3 62 [.map none, .int .i64 0, .int .i64 0]) rfl (by kernel_rfl) (by kernel_rfl) ?_; intro w5 hr5 ho5 hz5; have HR5 := Lib.hid hr5.out; have hb5 : Below w3.heap.size w3 w5 := only_new (by rw [HSV.out]; exact ho5.out); have HM5 := Lib.hid (HM3.out.up hb5); have hB3 := Lib.hid (HBC.out.trans (hb5.mono HBC.out.size)); clear HBC HM3 hr5 ho5 hz5 hb5; have HBC := hB3; clear hB3; obtain ⟨VV, hVV⟩ : ∃ VV, VV = vwV mb b r6 := ⟨_, rfl⟩; have HLV : Hid (∀ W, Below w5.heap.size w5 W → (Instr.loadAt 62 (.pointer (some ⟨sv, 0, none⟩))).run Try.prog W = .ok VV W) := Lib.hid (fun W h => by rw [hVV]; exact (HR5.out.up h).rg.load 0 62 (vwC mb b r6) rfl _ Try.underlying62 rfl (by kernel_rfl)); have HC5 := Lib.hid (HCK.out w5 mb n9 b r6 HBC.out HM5.out); rw [← hVV] at HC5; have HVV := Lib.hid hVV; clear hVV; have HB5 : Hid (Below w5.heap.size w5 w5) := Lib.hid (Below.refl _ _))
    | (clear HM3; refine wpList_load_is rfl 62 _ rfl (.pointer (some ⟨sv, 0, none⟩)) rfl VV (HLV.out _ HB5.out) ?_)
    | (go_at_call 46; refine HC5.out.mono ?_; rintro r w6 ⟨rfl, hb⟩; have hB3 := Lib.hid (HBC.out.trans (hb.mono HBC.out.size)); clear HBC; have HBC := hB3; clear hB3; have HB6 := Lib.hid (HB5.out.trans hb); clear HB5; have HB5 := HB6; clear HB6; have HM6 := Lib.hid (HM5.out.up hb); clear hb)
    | (refine wpList_store_wh rfl 62 _ _ rfl (s0 + 1) rfl 62 [.map none, .int .i64 0, .int .i64 0] [.map none, .int .i64 0, .int .i64 0] rfl (HV.out.up HBC.out) rfl (by kernel_rfl) (by kernel_rfl) ?_; intro w8 hr8 ho8 hz8; have HR8 := Lib.hid hr8.out; have HE8 := Lib.hid (cy_end HB2.out HBC.out ho8.out (by have := HS0.out; omega)); clear hr8 ho8 hz8))
   obtain ⟨z0, z1, z2⟩ : w8.cell? ⟨s0 + 1, 0, none⟩ = some (.map none) ∧ w8.cell? ⟨s0 + 1, 1, none⟩ = some (.int .i64 0) ∧ w8.cell? ⟨s0 + 1, 2, none⟩ = some (.int .i64 0) := ⟨HR8.out.at 0 _ rfl, HR8.out.at 1 _ rfl, HR8.out.at 2 _ rfl⟩
   exact bodyPost_ret (v := .tuple #[vw0, .int .i64 N]) (by simp [results, Try.results31, go_sem, z0, z1, z2]) rfl ⟨HVQ.out 0 0 _ _ _ ⟨fun h => absurd h HNN.out, fun _ => rfl⟩, by first | exact HE8.out | (rw [← HS0.out]; exact HE8.out)⟩
 ·have z1 : (E != 0) = true := by simp [hE0]
  have z2 : (E == 0) = false := by simp [hE0]
  have HVP : Hid (∀ W, Below w2.heap.size w2 W → Calls Try.prog 21 #[GV, .int .i64 p] W fun e w' => e = .returned (.tuple #[vw0, .int .i64 E]) ∧ Below W.heap.size W w') := Lib.hid (fun W hb => (HVO.out W hb).mono fun e w' ⟨h1, h2⟩ => ⟨by unfold VwQ at h1; rw [if_neg hE0] at h1; exact h1, h2⟩)
  have HVQ : Hid (∀ W, VwQ g L E p (.returned (.tuple #[vw0, .int .i64 E])) W) := Lib.hid (fun W => by unfold VwQ; rw [if_neg hE0])
  simp only [if_neg hE0]
  clear HVO hE0
  have HM2 : True := trivial
  go_enter Try.func31, Try.ntmps31
  go_wp2_with (first
   | (clear HM1; refine wpList_load_is rfl 29 _ rfl (.pointer (some ⟨s0, 0, none⟩)) rfl GV (HLG.out _ HBC.out) ?_)
   | (go_at_call 21; refine (HVP.out _ HBC.out).mono ?_; rintro r w3 ⟨rfl, hb⟩; have hB3 := Lib.hid (HBC.out.trans (hb.mono HBC.out.size)); clear HBC; have HBC := hB3; clear hB3; obtain ⟨sv, hsv⟩ : ∃ sv, w3.heap.size = sv := ⟨_, rfl⟩; have HSV := Lib.hid hsv; clear hb)
   | (clear HM2; refine wpList_store_wh rfl 62 _ _ rfl sv rfl 62 [.map none, .int .i64 0, .int .i64 0] [.map none, .int .i64 0, .int .i64 0] rfl (by rw [← HSV.out]; exact Wh.new w3 62 [.map none, .int .i64 0, .int .i64 0]) rfl (by kernel_rfl) (by kernel_rfl) ?_; intro w5 hr5 ho5 hz5; have hb5 : Below w3.heap.size w3 w5 := only_new (by rw [HSV.out]; exact ho5.out); have hB3 := Lib.hid (HBC.out.trans (hb5.mono HBC.out.size)); clear HBC hr5 ho5 hz5 hb5; have HBC := hB3; clear hB3)
   | (refine wpList_store_wh rfl 62 _ _ rfl (s0 + 1) rfl 62 [.map none, .int .i64 0, .int .i64 0] [.map none, .int .i64 0, .int .i64 0] rfl (HV.out.up HBC.out) rfl (by kernel_rfl) (by kernel_rfl) ?_; intro w8 hr8 ho8 hz8; have HR8 := Lib.hid hr8.out; have HE8 := Lib.hid (cy_end HB2.out HBC.out ho8.out (by have := HS0.out; omega)); clear hr8 ho8 hz8))
  obtain ⟨z0, z1, z2⟩ : w8.cell? ⟨s0 + 1, 0, none⟩ = some (.map none) ∧ w8.cell? ⟨s0 + 1, 1, none⟩ = some (.int .i64 0) ∧ w8.cell? ⟨s0 + 1, 2, none⟩ = some (.int .i64 0) := ⟨HR8.out.at 0 _ rfl, HR8.out.at 1 _ rfl, HR8.out.at 2 _ rfl⟩
  exact bodyPost_ret (v := .tuple #[vw0, .int .i64 E]) (by simp [results, Try.results31, go_sem, z0, z1, z2]) rfl ⟨HVQ.out _, by first | exact HE8.out | (rw [← HS0.out]; exact HE8.out)⟩
open Go.RowKit Go.Maps Go.Sort Go.Shelf
theorem sumy_zero (w : World) : (zeroValue 76).run Try.prog w = .ok (.agg #[.int .i64 0, .int .i64 0]) w := by kernel_rfl
theorem keysy_any (b : Nat) (w : World) : Calls Try.prog 48 #[.map (some b)] w fun e w' => e = .returned (.func (.func 69) #[] #[.pointer (some ⟨w.heap.size, 0, none⟩)]) ∧ w' = w.alloc (.cells #[.map (some b)] 74) :=
 (callsIn_wide (n := 5)).1 (AnyZI.keys_in Try.keys48 Fence.wide 5 trivial rfl (some b) w)
set_option maxHeartbeats 1000000 in
theorem sortedy_any (b n : Nat) (f : Int → Option Value) (w : World) (h : MapV w b n f) (hn : n ≤ 1000000) :
  Calls Try.prog 47 #[.func (.func 69) #[] #[.pointer (some ⟨w.heap.size, 0, none⟩)]] (w.alloc (.cells #[.map (some b)] 74)) fun e w' => ∃ (v : Value) (L : List Int), e = .returned v ∧ SlI w' v L ∧ Asc L ∧ (∀ x, x ∈ L ↔ (f x).isSome = true) ∧ Below w.heap.size w w' := by
 obtain ⟨D, hown, hD⟩ := h
 obtain ⟨hnd, hmem⟩ := intKeys_is hown
 have hbl := hown.lt
 have hsz := hown.size_le
 have hseq : SeqGives Fence.wide 2 Try.prog 69 #[.pointer (some ⟨w.heap.size, 0, none⟩)] encZ (fun ss => ss.Perm (intKeys D)) (Maps.size D) (w.alloc (.cells #[.map (some b)] 74)) :=
  AnyZI.keys_gives (ρ := Try.keys48_ren) { Try.keys48 with } Fence.wide _ trivial rfl (by omega) w.heap.size b n D _ (by simp) (by simp) (by
   obtain ⟨es, clock, hb, Ft, hs, hD⟩ := hown
   exact ⟨es, clock, (Below.heap_alloc _ _ b hbl).trans hb, Ft, hs, hD⟩)
 have cS := AnyZI.sorted_in Try.sorted47 Fence.wide 5 trivial trivial trivial trivial rfl (by omega) (sorts_any _) (enters_of Try.func68 (by kernel_rfl) rfl) 69 #[.pointer (some ⟨w.heap.size, 0, none⟩)] trivial (enters_of Try.func69 (by kernel_rfl) rfl) _ _ (by unfold maxLen; omega) (by omega) _ hseq
 refine ((callsIn_wide (n := 5)).1 cS).mono ?_
 rintro e w' ⟨v, ss, rfl, hp, hrow, _, hb⟩
 have hnd2 : ss.Nodup := hp.nodup_iff.2 hnd
 have hpm := List.mergeSort_perm ss (fun x y => decide (x ≤ y))
 refine ⟨v, ss.mergeSort (fun x y => decide (x ≤ y)), rfl, ?_, sort_asc hnd2, fun x => ?_, ?_⟩
 ·refine OwnI.sli (e := 3) (base := (w.alloc (.cells #[.map (some b)] 74)).heap.size) ?_
  unfold OwnI
  rw [List.length_mergeSort]
  exact hrow
 ·rw [hpm.mem_iff, hp.mem_iff, hmem, (hD x).1]
 ·exact ((Below.refl _ w).alloc (Nat.le_refl _) _).trans (hb.mono (by simp))
set_option maxRecDepth 20000 in
set_option maxHeartbeats 3200000 in
theorem ybal_any (sb m : Nat) (f : Int → Option Value) (P : List Bal) (w : World) (h : SI w sb m f P) (hm : m ≤ 1000000) (hp : P.length ≤ 1000) :
  Calls Try.prog 33 #[.map (some sb)] w fun e w' => ∃ v, e = .returned (.tuple #[v, .int .i64 (lisE P)]) ∧ SlB w' v (lisL P) ∧ Below w.heap.size w w' := by
 have hB := Below.refl w.heap.size w
 have hsb := h.map.lt
 have hE1 : amtsB (sumsL P) = false → lisE P = 2 ∧ lisL P = [] := fun h => by unfold lisE lisL; rw [h]; exact ⟨rfl, rfl⟩
 have hE0 : amtsB (sumsL P) = true → lisE P = 0 ∧ lisL P = pick0 (sumsL P) := fun h => by unfold lisE lisL; rw [h]; exact ⟨rfl, rfl⟩
 have hsl := sumsL_len (P := P)
 obtain ⟨hasc, hmem⟩ := keysL_is (l := P.map (·.acct))
 have hDK : ∀ D : List Int, Asc D → (∀ x, x ∈ D ↔ (f x).isSome = true) → D = keysL (P.map (·.acct)) := fun D h1 h2 => keysL_ext h1 fun x => by rw [h2 x, h.dom x]
 have hg : ∀ i, i < (sumsL P).length → (sumsL P).getD i bal0 = ⟨(keysL (P.map (·.acct))).getD i 0, ofS P ((keysL (P.map (·.acct))).getD i 0)⟩ := by
  intro i hi
  have hi' : i < (keysL (P.map (·.acct))).length := by unfold sumsL at hi; rwa [List.length_map] at hi
  unfold sumsL
  rw [List.getD_eq_getElem?_getD, List.getElem?_map, List.getD_eq_getElem?_getD, List.getElem?_eq_getElem hi']; rfl
 have hlen : (keysL (P.map (·.acct))).length = (sumsL P).length := by unfold sumsL; rw [List.length_map]
 have hT : ∀ i, i < (sumsL P).length → (keysL (P.map (·.acct))).getD i 0 = ((sumsL P).getD i bal0).acct := fun i hi => by rw [hg i hi]
 have hV : ∀ i, i < (sumsL P).length → ∃ g r, (f ((sumsL P).getD i bal0).acct).getD (.agg #[.int .i64 0, .int .i64 0]) = sumV g r ∧ SumZ g r ((sumsL P).getD i bal0).amt := fun i hi => by
  obtain ⟨g, r, e1, e2, -⟩ := h.val ((sumsL P).getD i bal0).acct
  refine ⟨g, r, e1, ?_⟩
  rw [hg i hi] at e2 ⊢
  exact e2
 have hWF : ∀ i, i < (sumsL P).length → (Lit.int .i64 ((sumsL P).getD i bal0).acct).wf = true := fun i hi => by
  refine h.wf _ ((hmem _).1 ?_)
  rw [← hT i hi]
  exact getD_mem_acc (by rw [hlen]; exact hi)
 have hmap := h.map
 generalize lisE P = re at *
 generalize lisL P = rl at *
 generalize keysL (P.map (·.acct)) = D0 at *
 generalize sumsL P = S at *
 obtain ⟨n, hn⟩ : ∃ n, S.length = n := ⟨_, rfl⟩
 rw [hn] at hsl hlen hT hV hWF
 have hn1 : n ≤ 1000 := by omega
 have HN := Lib.hid hn
 have HLEN := Lib.hid hlen
 have HT := Lib.hid hT
 have HV := Lib.hid hV
 have HWF := Lib.hid hWF
 have HDK := Lib.hid hDK
 have HE1 := Lib.hid hE1
 have HE0 := Lib.hid hE0
 have HMP := Lib.hid hmap
 obtain ⟨i0, hi, hz1, hz2, hz3⟩ := info_parts infoI_bal
 clear h hE1 hE0 hsl hasc hmem hDK hg hlen hT hV hWF hmap hn hp
 go_enter Try.func33, Try.ntmps33
 go_wp2_with (first
  | (go_at_call 48; refine (keysy_any _ _).mono ?_; rintro e w1 ⟨rfl, rfl⟩)
  | (go_at_call 47; refine (sortedy_any sb m f w HMP.out hm).mono ?_; rintro e w2 ⟨v, D, rfl, h1, h2, h3, hb⟩; have hDD := HDK.out D h2 h3; subst hDD; obtain ⟨AD, cD, hvD, hiD⟩ := h1; rw [HLEN.out] at hvD; subst hvD; have HID := Lib.hid hiD; have HBA := Lib.hid hb; clear hb h2 h3 hiD))
 obtain ⟨s1, hs1⟩ : ∃ s1, w2.heap.size = s1 := ⟨_, rfl⟩
 have hws : w.heap.size ≤ s1 := by rw [← hs1]; exact HBA.out.size
 have hB1 : Below s1 w2 w2 := Below.refl _ _
 have HM2 := Lib.hid (HMP.out.up HBA.out)
 have HS1 := Lib.hid hs1
 clear hs1
 have hO : Hid (OwnB 49 w2 s1 (.slice none 0 0) (pick0 (S.take 0))) := Lib.hid OwnB.nil
 go_loopg [4, 13] n (fun kx s4 s13 wr => ∃ k : Nat, s13 = .int .i64 k ∧ k ≤ n ∧ n - k ≤ kx ∧ Hid (amtsB (S.take k) = true) ∧ Hid (OwnB 49 wr s1 s4 (pick0 (S.take k))) ∧ Below s1 w2 wr)
 case atStart => exact ⟨0, rfl, by omega, by omega, Lib.hid rfl, hO, hB1⟩
 case round =>
  clear hB1 hO hB
  obtain ⟨k, rfl, hk, hkx, HA, hO, hB⟩ := hrel
  have hsz : s1 ≤ wr.heap.size := by have := hB.size; have := HS1.out; omega
  by_cases hlt : k < n
  ·have hltz : (k : Int) < (n : Int) := by omega
   obtain ⟨bD, offD, rfl, hbD, hcD⟩ := HID.out (by rw [HLEN.out]; omega)
   have hcell := (hB.cell (p := ⟨bD, offD + k, none⟩) (by rw [← HS1.out]; exact hbD)).trans (hcD k (by rw [HLEN.out]; exact hlt))
   rw [HT.out k hlt] at hcell
   obtain ⟨g, r, hv, hz⟩ := HV.out k hlt
   have hwf := HWF.out k hlt
   have htk := pick0_succ (l := S) (k := k) (by rw [HN.out]; exact hlt)
   have hno := fun h => all_false_getD (d := bal0) (p := fun x : Bal => amtB x.amt) (L := S) (k := k) (by rw [HN.out]; exact hlt) h
   have h9 := take_all_getD (d := bal0) (p := fun x : Bal => amtB x.amt) S k (by rw [HN.out]; exact hlt)
   have hln : Hid ((pick0 (S.take k)).length ≤ 100000000) := Lib.hid (by have := pick0_len (l := S.take k); rw [List.length_take] at this; omega)
   generalize S.getD k bal0 = x at *
   obtain ⟨t, z⟩ := x
   dsimp only at hcell hv hz hwf htk hno h9
   have ha := fun w => yamount_any g r z w hz
   have HVV := Lib.hid hv
   have HWX := Lib.hid hwf
   have HNo := Lib.hid hno
   have H9 := Lib.hid h9
   have HMR := Lib.hid (HM2.out.up (by rw [HS1.out]; exact hB))
   clear hcD hv hz hwf hno h9
   cases hq : amtB z
   ·rw [hq] at ha
    replace ha : ∀ w, Calls Try.prog 45 #[sumV g r] w fun e w' => e = .returned (.tuple #[.int .i64 0, .int .i64 2]) ∧ Below w.heap.size w w' := ha
    have q1 : ((2 : Int) != 0) = true := rfl
    have E := Lib.hid (HE1.out (HNo.out hq)).1
    have R := Lib.hid (HE1.out (HNo.out hq)).2
    have HAm := Lib.hid ha
    clear ha hq htk
    go_wp2_with (first
     | (at_lookup; refine wpList_mapv_look rfl _ _ _ 76 rfl Try.underlying74 sumy_zero sb m f rfl HMR.out t rfl HWX.out ?_; rw [HVV.out])
     | (go_at_call 45; (with_reducible refine (HAm.out _).mono ?_); rintro e w3 ⟨rfl, hb⟩; replace hB := hB.trans (hb.mono hsz); clear hb))
    go_ret2
    exact ⟨_, by rw [E.out]; rfl, by rw [R.out]; exact SlB.nil, HBA.out.trans (hB.mono hws)⟩
   ·rw [hq] at ha
    replace ha : ∀ w, Calls Try.prog 45 #[sumV g r] w fun e w' => e = .returned (.tuple #[.int .i64 z, .int .i64 0]) ∧ Below w.heap.size w w' := ha
    have q1 : ((0 : Int) != 0) = false := rfl
    have HAm := Lib.hid ha
    have HA2 : Hid (amtsB (S.take (k + 1)) = true) := Lib.hid (by show (S.take (k + 1)).all _ = true; rw [H9.out]; show (amtsB (S.take k) && amtB z) = true; rw [HA.out, hq]; rfl)
    clear ha hq
    by_cases h0 : z = 0
    ·rw [if_pos h0] at htk
     have e0 : (z != 0) = false := by simp [h0]
     have HTK := Lib.hid htk
     clear h0 htk
     go_wp2_with (first
      | (at_lookup; refine wpList_mapv_look rfl _ _ _ 76 rfl Try.underlying74 sumy_zero sb m f rfl HMR.out t rfl HWX.out ?_; rw [HVV.out])
      | (go_at_call 45; (with_reducible refine (HAm.out _).mono ?_); rintro e w3 ⟨rfl, hb⟩; have hO2 : Hid (OwnB 49 w3 s1 u4 (pick0 (S.take (k + 1)))) := Lib.hid (by (rw [HTK.out]; exact hO.out.up hb)); replace hB := hB.trans (hb.mono hsz); clear hb))
     go_roundg (n - (k + 1))
     case measure => omega
     case rel => exact ⟨k + 1, by go_num, by omega, by omega, HA2, hO2, hB⟩
    ·rw [if_neg h0] at htk
     have e0 : (z != 0) = true := by simp [h0]
     have HTK := Lib.hid htk
     clear h0 htk
     go_wp2_with (first
      | (at_lookup; refine wpList_mapv_look rfl _ _ _ 76 rfl Try.underlying74 sumy_zero sb m f rfl HMR.out t rfl HWX.out ?_; rw [HVV.out])
      | (go_at_call 45; (with_reducible refine (HAm.out _).mono ?_); rintro e w3 ⟨rfl, hb⟩; have hO2 : Hid (OwnB 49 w3 s1 u4 (pick0 (S.take k))) := Lib.hid (hO.out.up hb); have hsz3 := hb.size; replace hsz3 := Nat.le_trans hsz hsz3; replace hB := hB.trans (hb.mono hsz); clear hb)
      | (at_builtin; refine wpList_append_bg _ rfl (.tmp 29) (.tmp 33) 43 rfl s1 49 i0 16 Try.underlying43 hi hz1 hz2 hz3 (by omega) u4 _ (by rfl) hO2.out t z _ 1 (by first | rfl | simp) rfl hln.out hsz3 ?_; intro v2 w4 ho2 hb2; replace ho2 := ho2.out; rw [← HTK.out] at ho2; replace ho2 := Lib.hid ho2; replace hB := hB.trans hb2; clear hb2))
     go_roundg (n - (k + 1))
     case measure => omega
     case rel => exact ⟨k + 1, by go_num, by omega, by omega, HA2, ho2, hB⟩
  ·obtain rfl : k = n := by omega
   have hltz : ¬ (k : Int) < (k : Int) := by omega
   have hA := HA.out
   rw [List.take_of_length_le (by rw [HN.out]; omega)] at hA
   obtain ⟨hE, hR⟩ := HE0.out hA
   have ho := hO.out.slb
   rw [List.take_of_length_le (by rw [HN.out]; omega), ← hR] at ho
   have HO := Lib.hid ho
   have E := Lib.hid hE
   clear ho hA hE hR
   go_wp2_with fail
   go_ret2
   exact ⟨_, by rw [E.out]; rfl, HO.out, HBA.out.trans (hB.mono hws)⟩
theorem plI_wf {L : List Acc} {r b c d : Int} (hr : (Lit.int .i64 r).wf = true) (hc : (Lit.int .i64 c).wf = true) : (Lit.int .i64 (plI L r b c d)).wf = true := by
 unfold plI
 split
 ·exact hr
 ·exact hc
theorem r6_wf {g : Grp} {L : List Acc} {G : List Ent} (h : GrW g L G) : (Lit.int .i64 g.r6).wf = true := h.rol _ (by simp [Grp.R])
set_option maxRecDepth 100000 in
set_option maxHeartbeats 6400000 in
theorem ycarry_any (g : Grp) (L : List Acc) (G : List Ent) (A : Option Addr) (c : Nat) (X : List Lnk) (p : Int) (w : World) (hk : GrK w g L G) (hs : Sm g G) (hw : GrW g L G) (hz : LnkAt w A X) (hl : X.length ≤ 1000) (hx : ∀ d ∈ X, (Lit.int .i64 d.frm).wf = true) : Calls Try.prog 16 #[grpV g, .slice A X.length c, .int .i64 p] w fun e w' => (∃ v, e = .returned (.tuple #[v, .int .i64 (caE g L G X p)]) ∧ SlB w' v (caL g L G X p)) ∧ Below w.heap.size w w' := by
 obtain ⟨GV, hGV⟩ : ∃ GV, GV = grpV g := ⟨_, rfl⟩
 obtain ⟨gs, hgs⟩ : ∃ gs, (grpC g).toArray = gs := ⟨_, rfl⟩
 obtain ⟨s0, hs0⟩ : ∃ s0, w.heap.size = s0 := ⟨_, rfl⟩
 obtain ⟨w2, hw2⟩ : ∃ w2, w.alloc (.cells gs 29) = w2 := ⟨_, rfl⟩
 have HGB : Hid (Wh 29 w2 s0 (grpC g)) := Lib.hid (by rw [← hw2, ← hgs, ← hs0]; exact (Wh.new w 29 (grpC g)))
 have HB2 : Hid (Below w.heap.size w w2) := Lib.hid (by rw [← hw2]; exact below_alloc_new _)
 have HS0 := Lib.hid hs0
 have HLG : Hid (∀ W, Below w2.heap.size w2 W → (Instr.loadAt 29 (.pointer (some ⟨s0, 0, none⟩))).run Try.prog W = .ok GV W) := Lib.hid (fun W h => by rw [hGV, grpV_is]; exact (HGB.out.up h).rg.load 0 29 (grpC g) rfl _ Try.underlying29 rfl (by kernel_rfl))
 have HBC : Hid (Below w2.heap.size w2 w2) := Lib.hid (Below.refl _ _)
 have HBW : Hid (∀ W, Below w2.heap.size w2 W → Below w.heap.size w W) := Lib.hid (fun W h => HB2.out.trans (h.mono HB2.out.size))
 have HS2 : Hid (s0 + 1 ≤ w2.heap.size) := Lib.hid (by rw [← hw2, ← hs0]; simp)
 have HVO := Lib.hid (fun W (hb : Below w2.heap.size w2 W) => yviewall_any g L G A c X p W ((hk.up HB2.out).up hb) hs hw ((hz.up HB2.out).up hb) hl hx)
 have HZ : Hid (LnkAt w2 A X) := Lib.hid (hz.up HB2.out)
 have HR6 := Lib.hid (r6_wf hw)
 have HWF := Lib.hid hx
 have hGS : GV = .agg gs := by rw [hGV, grpV_is, hgs]
 rw [← hGV] at HVO ⊢
 rw [hGS]
 clear hGS hGV
 have hce : caE g L G X p = if cvE g L G X p = 0 then lisE (plL L g.r6 (cyB g p) X) else cvE g L G X p := rfl
 have hcl : caL g L G X p = if cvE g L G X p = 0 then lisL (plL L g.r6 (cyB g p) X) else [] := rfl
 rw [hce, hcl]
 have hams := fun h => (cvE_ok (g := g) (L := L) (G := G) (X := X) (p := p) h).2.2
 obtain ⟨E, hE⟩ : ∃ E, cvE g L G X p = E := ⟨_, rfl⟩
 rw [hE] at HVO hams ⊢
 obtain ⟨n, hn⟩ : ∃ n, X.length = n := ⟨_, rfl⟩
 have HN := Lib.hid hn
 rw [hn] at HVO hl ⊢
 have HL := Lib.hid hl
 have HAMS := Lib.hid hams
 clear hk hs hw hz hx hce hcl hE hn hl hams
 have HM1 : True := trivial
 have HM2 : True := trivial
 by_cases hE0 : E = 0
 ·subst hE0
  simp only [if_true]
  have HAM := Lib.hid (fun k (hk : k < n) => amtB_is.1 (all_getD (d := lnk0).1 (HAMS.out rfl) k (by rw [HN.out]; exact hk)))
  have z1 : ((0 : Int) != 0) = false := rfl
  have HVP : Hid (∀ W, Below w2.heap.size w2 W → Calls Try.prog 31 #[GV, .slice A n c, .int .i64 p] W fun e w' => (∃ mb n, e = .returned (.tuple #[vwV mb (cyB g p) g.r6, .int .i64 0]) ∧ MapV w' mb n (resM L)) ∧ Below W.heap.size W w') := Lib.hid (fun W hb => (HVO.out W hb).mono fun e w' ⟨h1, h2⟩ => ⟨by unfold VwQ at h1; rw [if_pos rfl] at h1; exact h1, h2⟩)
  obtain ⟨b, hb⟩ : ∃ b, cyB g p = b := ⟨_, rfl⟩
  rw [hb] at HVP ⊢
  obtain ⟨r6, hr6⟩ : ∃ r6, g.r6 = r6 := ⟨_, rfl⟩
  rw [hr6] at HVP HR6 ⊢
  obtain ⟨P, hP⟩ : ∃ P, plL L r6 b X = P := ⟨_, rfl⟩
  rw [hP]
  have HPE := Lib.hid hP
  clear hb hr6 HVO HAMS hP
  have hmm := @run_makeMap Try.prog
  go_enter Try.func16, Try.ntmps16
  go_wp2_with (first
   | (clear HM1; refine wpList_load_is rfl 29 _ rfl (.pointer (some ⟨s0, 0, none⟩)) rfl GV (HLG.out _ HBC.out) ?_)
   | (go_at_call 31; refine (HVP.out _ HBC.out).mono ?_; rintro r w3 ⟨⟨mb, n9, rfl, hm3⟩, hb⟩; have hB3 := Lib.hid (HBC.out.trans (hb.mono HBC.out.size)); clear HBC hb; have HBC := hB3; clear hB3; have HM3 := Lib.hid hm3; clear hm3; obtain ⟨sv, hsv⟩ : ∃ sv, w3.heap.size = sv := ⟨_, rfl⟩; have HSV := Lib.hid hsv)
   | (clear HM2; refine wpList_store_wh rfl 62 _ _ rfl sv rfl 62 [.map none, .int .i64 0, .int .i64 0] (vwC mb b r6) rfl (by rw [← HSV.out]; exact Wh.new w3 62 [.map none, .int .i64 0, .int .i64 0]) rfl (by kernel_rfl) (by kernel_rfl) ?_; intro w5 hr5 ho5 hz5; have HR5 := Lib.hid hr5.out; have hb5 : Below w3.heap.size w3 w5 := only_new (by rw [HSV.out]; exact ho5.out); have HM5 := Lib.hid (HM3.out.up hb5); have hB3 := Lib.hid (HBC.out.trans (hb5.mono HBC.out.size)); clear HBC HM3 hr5 ho5 hz5 hb5; have HBC := hB3; clear hB3; obtain ⟨VV, hVV⟩ : ∃ VV, VV = vwV mb b r6 := ⟨_, rfl⟩; have HLV : Hid (∀ W, Below w5.heap.size w5 W → (Instr.loadAt 62 (.pointer (some ⟨sv, 0, none⟩))).run Try.prog W = .ok VV W) := Lib.hid (fun W h => by rw [hVV]; exact (HR5.out.up h).rg.load 0 62 (vwC mb b r6) rfl _ Try.underlying62 rfl (by kernel_rfl))))
  have HPL := Lib.hid (fun x d W (hb : Below w5.heap.size w5 W) (hx : (Lit.int .i64 x).wf = true) => yplace_any L mb n9 b r6 x d W (HM5.out.up hb) hx)
  rw [← hVV] at HPL
  obtain ⟨s3, hs3⟩ : ∃ s3, w5.heap.size = s3 := ⟨_, rfl⟩
  have HS3 := Lib.hid hs3
  have hSI := SI.start (MapV.made w5)
  have HB3 : Hid (Below s3 w5 (w5.alloc (.map #[] 0))) := Lib.hid (by rw [← hs3]; exact below_alloc_new _)
  have HBB := Lib.hid (fun W (h : Below s3 w5 W) => HBC.out.trans (h.mono (by rw [← hs3]; exact HBC.out.size)))
  rw [hs3] at hSI HPL HLV ⊢
  have HSI : Hid (SI (w5.alloc (.map #[] 0)) s3 0 (fun _ => none) (plL L r6 b (X.take 0))) := Lib.hid (by show SI _ _ _ _ []; exact hSI)
  have HTK := Lib.hid (fun k hk => plL_take (L := L) (r := r6) (b := b) (X := X) (k := k) hk)
  have HTL : Hid (∀ k, (plL L r6 b (X.take k)).length ≤ n) := Lib.hid (fun k => by rw [plL_len, List.length_take, HN.out]; omega)
  have HTE : Hid (plL L r6 b (X.take n) = P) := Lib.hid (by rw [List.take_of_length_le (by rw [HN.out]; omega)]; exact HPE.out)
  clear HPE
  generalize hT : plL L r6 b = T at *
  clear hVV hSI hs3 hT HVP HSV HR5
  go_loopg [27] n (fun kx s27 wr => ∃ (k n2 : Nat) (f2 : Int → Option Value), s27 = .int .i64 k ∧ k ≤ n ∧ n - k ≤ kx ∧ n2 ≤ k ∧ Hid (SI wr s3 n2 f2 (T (X.take k))) ∧ Hid (Below s3 w5 wr))
  case atStart => exact ⟨0, 0, _, rfl, by omega, by omega, by omega, HSI, HB3⟩
  case round =>
   clear HSI HB3 HBC
   obtain ⟨k, n2, f2, rfl, hk, hkx, hn2, HSI, HB3⟩ := hrel
   have HBC := Lib.hid (HBB.out _ HB3.out)
   have HSZ : Hid (s3 ≤ wr.heap.size) := Lib.hid (by have := HB3.out.size; have := HS3.out; omega)
   by_cases hlt : k < n
   ·have hltz : (k : Int) < (n : Int) := by omega
    obtain ⟨bb, off, hA, hbw, hcs⟩ := HZ.out (by rw [HN.out]; omega)
    have HA3 := Lib.hid (hcs k (by rw [HN.out]; exact hlt))
    have HWX := Lib.hid (HWF.out _ (getD_mem_acc (d := lnk0) (i := k) (by rw [HN.out]; exact hlt)))
    have htk := HTK.out k (by rw [HN.out]; exact hlt)
    have HAX := Lib.hid (HAM.out k hlt)
    generalize X.getD k lnk0 = x at *
    obtain ⟨r0, r1, r2⟩ := HA3.out.up HBC.out hbw
    have HWT : Hid ((Lit.int .i64 (plI L r6 b x.frm x.tgt)).wf = true) := Lib.hid (plI_wf HR6.out HWX.out)
    have HPX := Lib.hid (fun W hb => HPL.out x.frm x.tgt W hb HWX.out)
    generalize plI L r6 b x.frm x.tgt = te at *
    have HB5 : Hid (Below wr.heap.size wr (wr.alloc (.cells #[.int .i64 x.frm, .int .i64 x.tgt, .int .i64 x.since] 70))) := Lib.hid (below_alloc_new _)
    have HC5 : Hid (Wh 70 (wr.alloc (.cells #[.int .i64 x.frm, .int .i64 x.tgt, .int .i64 x.since] 70)) wr.heap.size [.int .i64 x.frm, .int .i64 x.tgt, .int .i64 x.since]) := Lib.hid (Wh.new wr _ _)
    have HS1 := Lib.hid (HSI.out.up HB5.out)
    have HB1 := Lib.hid (HB3.out.trans (HB5.out.mono HSZ.out))
    have HSW : Hid (s3 ≤ (wr.alloc (.cells #[.int .i64 x.frm, .int .i64 x.tgt, .int .i64 x.since] 70)).heap.size) := Lib.hid (Nat.le_trans HSZ.out HB5.out.size)
    obtain ⟨gg, rr, hv, hzz, hg⟩ := HS1.out.val te
    have hlen := HTL.out k
    have HV2 := Lib.hid hv
    have HCP := Lib.hid (fun w => yplus_any gg rr x.since w (by have := HL.out; omega) ⟨hzz.lo, hzz.hi⟩ HAX.out)
    have HSTEP := Lib.hid (fun w4 hm => HS1.out.step (w4 := w4) hv hzz hg HAX.out HWT.out hm)
    have HT2 := Lib.hid htk
    have hn9 : n2 ≤ 1000000 := by have := HL.out; omega
    have y0 := HC5.out.at 0 _ rfl
    have y1 := HC5.out.at 1 _ rfl
    have HM3 : True := trivial
    have hn6 : n ≤ 1000 := HL.out
    subst hA
    clear hcs hv hzz hg htk hlen HSI HB3 HBC
    go_wp2_with (first
     | (clear HM3; refine wpList_load_is rfl 62 _ rfl (.pointer (some ⟨sv, 0, none⟩)) rfl VV (HLV.out _ HB1.out) ?_)
     | (go_at_call 23; refine (HPX.out _ HB1.out).mono ?_; rintro r w6 ⟨rfl, hb⟩; have HSA := Lib.hid (HS1.out.up hb); have y2 := (HC5.out.up hb).at 2 _ rfl; have HBT := Lib.hid (HB1.out.trans (hb.mono HSW.out)); have HSX := Lib.hid (Nat.le_trans HSW.out hb.size); clear hb y0 y1)
     | (at_lookup; refine wpList_mapv_look rfl _ _ _ 76 rfl Try.underlying74 sumy_zero s3 n2 f2 rfl HSA.out.map te rfl HWT.out ?_; rw [HV2.out])
     | (go_at_call 32; (with_reducible refine (HCP.out _).mono ?_); rintro r w7 ⟨rfl, hb⟩; have HSB := Lib.hid (HSA.out.up hb); have HBU := Lib.hid (HBT.out.trans (hb.mono HSX.out)); have HSY := Lib.hid (Nat.le_trans HSX.out hb.size); clear hb)
     | (at_mapUpdate; refine wpList_mapv_put rfl _ _ _ _ 76 rfl Try.underlying74 s3 n2 f2 rfl HSB.out.map te rfl (sumV (plusG gg rr x.since) (plusR rr x.since)) rfl HWT.out hn9 ?_; intro w8 hm8 hg8; have HB8 := Lib.hid (grown_below HBU.out hg8.out (Nat.le_refl _) HSY.out); clear hg8))
    have HSI8 := Lib.hid (HSTEP.out _ hm8.out)
    rw [← HT2.out] at HSI8
    go_roundg (n - (k + 1))
    case measure => omega
    case rel => exact ⟨k + 1, n2 + 1, _, by go_num, by omega, by omega, by omega, HSI8, HB8⟩
   ·obtain rfl : k = n := by omega
    have hltz : ¬ (k : Int) < (k : Int) := by omega
    have hS := HSI.out
    have hPL := HTL.out k
    rw [HTE.out] at hS hPL
    have HLS := Lib.hid (ybal_any s3 n2 f2 P wr hS (by have := HL.out; omega) (by have := HL.out; omega))
    clear hS hPL
    go_wp2_with (first
     | (go_at_call 33; (with_reducible refine HLS.out.mono ?_); rintro r w8 ⟨v, rfl, hs8, hb⟩; have hB3 := Lib.hid (HBC.out.trans (hb.mono HBC.out.size)); clear HBC; have HBC := hB3; clear hB3; have HS8 := Lib.hid hs8; clear hb hs8))
    go_ret2
    exact ⟨⟨_, rfl, HS8.out⟩, by have h9 := HBW.out _ HBC.out; first | exact h9 | (rw [← HS0.out]; exact h9)⟩
 ·have z1 : (E != 0) = true := by simp [hE0]
  have HVP : Hid (∀ W, Below w2.heap.size w2 W → Calls Try.prog 31 #[GV, .slice A n c, .int .i64 p] W fun e w' => e = .returned (.tuple #[vw0, .int .i64 E]) ∧ Below W.heap.size W w') := Lib.hid (fun W hb => (HVO.out W hb).mono fun e w' ⟨h1, h2⟩ => ⟨by unfold VwQ at h1; rw [if_neg hE0] at h1; exact h1, h2⟩)
  simp only [if_neg hE0]
  clear HVO hE0 HAMS
  go_enter Try.func16, Try.ntmps16
  go_wp2_with (first
   | (clear HM1; refine wpList_load_is rfl 29 _ rfl (.pointer (some ⟨s0, 0, none⟩)) rfl GV (HLG.out _ HBC.out) ?_)
   | (go_at_call 31; refine (HVP.out _ HBC.out).mono ?_; rintro r w3 ⟨rfl, hb⟩; have hB3 := Lib.hid (HBC.out.trans (hb.mono HBC.out.size)); clear HBC; have HBC := hB3; clear hB3; obtain ⟨sv, hsv⟩ : ∃ sv, w3.heap.size = sv := ⟨_, rfl⟩; have HSV := Lib.hid hsv; clear hb)
   | (clear HM2; refine wpList_store_wh rfl 62 _ _ rfl sv rfl 62 [.map none, .int .i64 0, .int .i64 0] [.map none, .int .i64 0, .int .i64 0] rfl (by rw [← HSV.out]; exact Wh.new w3 62 [.map none, .int .i64 0, .int .i64 0]) rfl (by kernel_rfl) (by kernel_rfl) ?_; intro w5 hr5 ho5 hz5; have hb5 : Below w3.heap.size w3 w5 := only_new (by rw [HSV.out]; exact ho5.out); have hB3 := Lib.hid (HBC.out.trans (hb5.mono HBC.out.size)); clear HBC hr5 ho5 hz5 hb5; have HBC := hB3; clear hB3))
  go_ret2
  exact ⟨⟨_, rfl, SlB.nil⟩, by have h9 := HBW.out _ HBC.out; first | exact h9 | (rw [← HS0.out]; exact h9)⟩
end Go.Proofs.Ytompehjecamdiaa
