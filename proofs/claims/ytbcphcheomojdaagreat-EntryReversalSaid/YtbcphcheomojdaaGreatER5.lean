/- Contracts of the functions that the statements reach, part 5: what was proved of each, callees first. -/
import Derived.Test.YtbcphcheomojdaaGreatER4
namespace Go.Proofs.YtbcphcheomojdaaGreat.AK
open Go Go.RowKit
open Go.Proofs.YtbcphcheomojdaaGreat.AS (edgesOk needsOk onceOk waits2 limOk allocsOk aOk Apart getD_flag)
variable {Rp Kp : World → World → Prop}
def storesOk (ops : Array Oper) (pt : List (List Nat)) (st : List Nat) (js : List (List Nat)) : Bool :=
 (List.range st.length).all fun m => decide (st.getD m 0 < ops.size) &&
  (Nat.beq m 0 || Region.waitsFor .any ops (st.getD m 0) (st.getD (m - 1) 0)) && (js.getD (m + 1) []).all fun d => (pt.getD (st.getD m 0) []).contains d || (js.getD m []).contains d || (match ops[st.getD m 0]? with | some o => o.dst == some d | none => false)
def lowOk (ops : Array Oper) (st ln : List Nat) : Bool :=
 (List.range ops.size).all fun i => Nat.beq (ln.getD i 0) 0 || (decide (ln.getD i 0 ≤ st.length) && waits2 ops i (st.getD (ln.getD i 0 - 1) 0))
def chk (al : List Nat) (ops : Array Oper) (pt : List (List Nat)) (ds st : List Nat) (js : List (List Nat)) (lm ln : List Nat) : Bool :=
 lowOk ops st ln && (allocsOk ops al st && al.all ds.contains && edgesOk ops && needsOk ops pt ds && onceOk ops && storesOk ops pt st js && limOk ops st lm && allWritten ops ds && (js.getD 0 []).isEmpty)
structure Chk (al : List Nat) (ops : Array Oper) (pt : List (List Nat)) (ds st : List Nat) (js : List (List Nat)) (lm ln : List Nat) : Prop where
 low : ∀ i, i < ops.size → ln.getD i 0 = 0 ∨ (ln.getD i 0 ≤ st.length ∧ waits2 ops i (st.getD (ln.getD i 0 - 1) 0) = true)
 edge : ∀ (i : Nat) (o : Oper), ops[i]? = some o → ∀ e ∈ o.after, Region.binds .any e = true → e.on < i
 dst : ∀ (i : Nat) (o : Oper), ops[i]? = some o → ∀ d, o.dst = some d → d ∈ ds
 need : ∀ (i : Nat) (o : Oper), ops[i]? = some o → ∀ d ∈ pt.getD i [], ∃ e ∈ o.after, Region.binds .any e = true ∧ ((∃ o' : Oper, ops[e.on]? = some o' ∧ o'.dst = some d) ∨ d ∈ pt.getD e.on [])
 once : ∀ (i j : Nat) (o o' : Oper) (d : Nat), ops[i]? = some o → ops[j]? = some o' → o.dst = some d → o'.dst = some d → i = j
 slt : ∀ m, m < st.length → st.getD m 0 < ops.size
 schain : ∀ m, 0 < m → m < st.length → Region.waitsFor .any ops (st.getD m 0) (st.getD (m - 1) 0) = true
 sjs : ∀ m, m < st.length → ∀ d ∈ js.getD (m + 1) [], d ∈ pt.getD (st.getD m 0) [] ∨ d ∈ js.getD m [] ∨ ∃ o : Oper, ops[st.getD m 0]? = some o ∧ o.dst = some d
 lim : ∀ i, i < ops.size → lm.getD i st.length = st.length ∨ waits2 ops (st.getD (lm.getD i st.length) ops.size) i = true
 wr : ∀ d ∈ ds, ∃ (i : Nat) (o : Oper), ops[i]? = some o ∧ o.dst = some d
 js0 : js.getD 0 [] = []
 alw : ∀ d ∈ al, ∀ m, m < st.length → ∃ (i : Nat) (o : Oper), ops[i]? = some o ∧ o.dst = some d ∧ waits2 ops (st.getD m 0) i = true
 ald : ∀ d ∈ al, d ∈ ds
section
variable {ops : Array Oper} {ds st lm ln al : List Nat} {js pt : List (List Nat)}
theorem chk_spec (h : chk al ops pt ds st js lm ln = true) : Chk al ops pt ds st js lm ln := by
 unfold chk at h
 simp only [Bool.and_eq_true] at h
 obtain ⟨h10, ⟨⟨⟨⟨⟨⟨⟨h8, h9⟩, h1⟩, h2⟩, h3⟩, h4⟩, h5⟩, h6⟩, h7⟩ := h
 have lt : ∀ (i : Nat) (o : Oper), ops[i]? = some o → i ∈ List.range ops.size := fun i o ho => List.mem_range.2 (Array.getElem?_eq_some_iff.1 ho).1
 constructor
 ·intro i hi
  have h := List.all_eq_true.1 h10 i (List.mem_range.2 hi)
  simp only [Bool.or_eq_true, Nat.beq_eq, Bool.and_eq_true, decide_eq_true_eq] at h
  exact h
 ·intro i o ho e he hb
  have h := List.all_eq_true.1 h1 i (lt i o ho)
  rw [ho] at h
  dsimp only at h
  rw [Array.all_eq_true_iff_forall_mem] at h
  have h := h e he
  rw [hb] at h
  simpa using h
 ·intro i o ho d hd
  have h := List.all_eq_true.1 h2 i (lt i o ho)
  rw [ho] at h
  dsimp only at h
  rw [hd] at h
  simp only [Bool.and_eq_true] at h
  simpa using h.1
 ·intro i o ho d hd
  have h := List.all_eq_true.1 h2 i (lt i o ho)
  rw [ho] at h
  simp only [Bool.and_eq_true] at h
  have h := List.all_eq_true.1 h.2 d hd
  rw [Array.any_eq_true] at h
  obtain ⟨k, hk, h⟩ := h
  rw [Bool.and_eq_true, Bool.or_eq_true] at h
  refine ⟨o.after[k], Array.getElem_mem _, h.1, ?_⟩
  rcases h.2 with h4 | h4
  ·left
   cases h5 : ops[(o.after[k]).on]? with
   | none => rw [h5] at h4; cases h4
   | some o' => rw [h5] at h4; exact ⟨o', rfl, by simpa using h4⟩
  ·right; simpa using h4
 ·intro i j o o' d ho ho' hd hd'
  have h := List.all_eq_true.1 (List.all_eq_true.1 h3 i (lt i o ho)) j (lt j o' ho')
  rw [ho, ho'] at h
  dsimp only at h
  rw [hd, hd'] at h
  simpa using h
 ·intro m hm
  have h := List.all_eq_true.1 h4 m (List.mem_range.2 hm)
  simp only [Bool.and_eq_true, decide_eq_true_eq] at h
  exact h.1.1
 ·intro m h0 hm
  have h := List.all_eq_true.1 h4 m (List.mem_range.2 hm)
  simp only [Bool.and_eq_true, decide_eq_true_eq, Bool.or_eq_true, Nat.beq_eq] at h
  rcases h.1.2 with h | h
  ·omega
  ·exact h
 ·intro m hm d hd
  have h := List.all_eq_true.1 h4 m (List.mem_range.2 hm)
  simp only [Bool.and_eq_true] at h
  have h := List.all_eq_true.1 h.2 d hd
  simp only [Bool.or_eq_true] at h
  rcases h with (h | h) | h
  ·exact .inl (by simpa using h)
  ·exact .inr (.inl (by simpa using h))
  ·cases ho : ops[st.getD m 0]? with
   | none => rw [ho] at h; cases h
   | some o => rw [ho] at h; exact .inr (.inr ⟨o, rfl, by simpa using h⟩)
 ·intro i hi
  have h := List.all_eq_true.1 h5 i (List.mem_range.2 hi)
  simp only [Bool.or_eq_true, Nat.beq_eq] at h
  exact h
 ·intro d hd
  have h := List.all_eq_true.1 h6 d hd
  rw [Array.any_eq_true] at h
  obtain ⟨k, hk, h⟩ := h
  exact ⟨k, ops[k], by simp [hk], by simpa using h⟩
 ·simpa using h7
 ·intro d hd m hm
  have h := List.all_eq_true.1 (List.all_eq_true.1 h8 d hd) (st.getD m 0) (by simp [hm])
  obtain ⟨i, hi, h⟩ := List.any_eq_true.1 h
  rw [Bool.and_eq_true] at h
  cases ho : ops[i]? with
  | none => rw [ho] at h; cases h.1
  | some o => rw [ho] at h; exact ⟨i, o, ho, by simpa using h.1, h.2⟩
 ·intro d hd
  have h := List.all_eq_true.1 h9 d hd
  simpa using h
end
open Go.Proofs.YtbcphcheomojdaaGreat (fillL upd fillL_size fillL_get fillL_upd fillL_self filter_less none_listed put_fill)
structure Fact (Kp : World → World → Prop) where
 p : Value → World → Prop
 st : ∀ v w w', Kp w w' → p v w → p v w'
def Fact.triv : Fact Kp := ⟨fun _ _ => True, fun _ _ _ _ _ => trivial⟩
def Fact.is (x : Value) : Fact Kp := ⟨fun v _ => v = x, fun _ _ _ _ h => h⟩
def look : List (Nat × Fact Kp) → Nat → Fact Kp
 | [], _ => Fact.triv
 | (k, f) :: rest, d => bif Nat.beq k d then f else look rest d
def temps (FL : List (Nat × Fact Kp)) : List Nat := FL.map (·.1)
def factOf (FL : List (Nat × Fact Kp)) (dst : Option Nat) (v : Value) (w : World) : Prop := match dst with
 | none => True
 | some d => (look FL d).p v w
def Facts (FL : List (Nat × Fact Kp)) (u : Nat → Value) (w : World) : List Nat → Prop
 | [] => True
 | d :: ds => (look FL d).p (u d) w ∧ Facts FL u w ds
theorem facts_mk {FL : List (Nat × Fact Kp)} {u : Nat → Value} {w : World} {ds : List Nat} (h : ∀ d ∈ ds, (look FL d).p (u d) w) : Facts FL u w ds := by
 induction ds with
 | nil => trivial
 | cons d ds ih => exact ⟨h d (List.mem_cons_self ..), ih fun e he => h e (List.mem_cons_of_mem _ he)⟩
theorem facts_get {FL : List (Nat × Fact Kp)} {u : Nat → Value} {w : World} {ds : List Nat} (h : Facts FL u w ds) (d : Nat) (hd : d ∈ ds) : (look FL d).p (u d) w := by
 induction ds with
 | nil => cases hd
 | cons e ds ih =>
  rcases List.mem_cons.1 hd with rfl | hd
  ·exact h.1
  ·exact ih h.2 hd
section
variable {P : Program} {ops : Array Oper} {Q : Exit → Act → World → Prop} {FL : List (Nat × Fact Kp)} {J : Nat → List Value → World → Prop} {t0 : Array Value} {df : List Deferred} {ds : List Nat}
 {st lm ln al : List Nat} {js : List (List Nat)} {pt : List (List Nat)}
def StepOk (Rp : World → World → Prop) (al : List Nat) (P : Program) (ops : Array Oper) (Q : Exit → Act → World → Prop) (FL : List (Nat × Fact Kp)) (J : Nat → List Value → World → Prop) (js : List (List Nat)) (fr : (Nat → Value) → Array Value) (df : List Deferred) (o : Oper) (need : List Nat) (lim lo : Nat) : Prop :=
 ∀ (k : Nat) (u : Nat → Value) (w : World), k ≤ lim → lo ≤ k → J k ((js.getD k []).map u) w → Facts FL u w need → ∀ K : Act → World → Prop, Shut (∀ v w', Rp w w' → factOf FL o.dst v w' → aOk al o.dst v w w' → K ((⟨fr u, df⟩ : Act).put o.dst v) w') →
  if Region.wanted o (yielded ops (fr u)) = true then Oper.wp P o ⟨fr u, df⟩ w K Q else K ((⟨fr u, df⟩ : Act).put o.dst undef) w
def StoreOk (al : List Nat) (P : Program) (ops : Array Oper) (Q : Exit → Act → World → Prop) (FL : List (Nat × Fact Kp)) (J : Nat → List Value → World → Prop) (js : List (List Nat)) (fr : (Nat → Value) → Array Value) (df : List Deferred) (o : Oper) (need : List Nat) (k : Nat) : Prop :=
 ∀ (u : Nat → Value) (w : World), J k ((js.getD k []).map u) w → Apart al u → Facts FL u w need → ∀ K : Act → World → Prop, Shut (∀ v w', J (k + 1) ((js.getD (k + 1) []).map (upd u o.dst v)) w' → Kp w w' → factOf FL o.dst v w' → K ((⟨fr u, df⟩ : Act).put o.dst v) w') →
  if Region.wanted o (yielded ops (fr u)) = true then Oper.wp P o ⟨fr u, df⟩ w K Q else K ((⟨fr u, df⟩ : Act).put o.dst undef) w
def StepsOk (Rp : World → World → Prop) (al : List Nat) (P : Program) (ops : Array Oper) (Q : Exit → Act → World → Prop) (FL : List (Nat × Fact Kp)) (J : Nat → List Value → World → Prop) (js : List (List Nat)) (fr : (Nat → Value) → Array Value) (df : List Deferred) (pt : List (List Nat)) (st lm ln : List Nat) : List Oper → Nat → Prop
 | [], _ => True
 | o :: rest, i => (match st.idxOf? i with
   | some k => StoreOk al P ops Q FL J js fr df o (pt.getD i []) k
   | none => StepOk Rp al P ops Q FL J js fr df o (pt.getD i []) (lm.getD i st.length) (ln.getD i 0)) ∧ StepsOk Rp al P ops Q FL J js fr df pt st lm ln rest (i + 1)
theorem StepsOk.nil {fr : (Nat → Value) → Array Value} {i : Nat} : StepsOk Rp al P ops Q FL J js fr df pt st lm ln [] i := trivial
theorem sc {fr : (Nat → Value) → Array Value} {o : Oper} {rest : List Oper} {i : Nat} {need : List Nat} {lim lo : Nat} (h0 : st.idxOf? i = none) (h1 : pt.getD i [] = need) (h2 : lm.getD i st.length = lim) (h3 : ln.getD i 0 = lo)
  (h : StepOk Rp al P ops Q FL J js fr df o need lim lo) (hs : StepsOk Rp al P ops Q FL J js fr df pt st lm ln rest (i + 1)) : StepsOk Rp al P ops Q FL J js fr df pt st lm ln (o :: rest) i := ⟨by rw [h0, h1, h2, h3]; exact h, hs⟩
theorem ss {fr : (Nat → Value) → Array Value} {o : Oper} {rest : List Oper} {i k : Nat} {need : List Nat} (h0 : st.idxOf? i = some k) (h1 : pt.getD i [] = need)
  (h : StoreOk al P ops Q FL J js fr df o need k) (hs : StepsOk Rp al P ops Q FL J js fr df pt st lm ln rest (i + 1)) : StepsOk Rp al P ops Q FL J js fr df pt st lm ln (o :: rest) i := ⟨by rw [h0, h1]; exact h, hs⟩
theorem steps_at {fr : (Nat → Value) → Array Value} : ∀ (l : List Oper) (i0 : Nat), StepsOk Rp al P ops Q FL J js fr df pt st lm ln l i0 → ∀ i o, l[i]? = some o → (match st.idxOf? (i0 + i) with
      | some k => StoreOk al P ops Q FL J js fr df o (pt.getD (i0 + i) []) k
      | none => StepOk Rp al P ops Q FL J js fr df o (pt.getD (i0 + i) []) (lm.getD (i0 + i) st.length) (ln.getD (i0 + i) 0)) := by
  intro l
  induction l with
  | nil => intro i0 _ i o h; simp at h
  | cons x l ih =>
    intro i0 hs i o h
    cases i with
    | zero => simp at h; subst h; exact hs.1
    | succ i =>
      have := ih (i0 + 1) hs.2 i o (by simpa using h)
      rwa [show i0 + 1 + i = i0 + (i + 1) by omega] at this
structure Inv (al : List Nat) (ops : Array Oper) (FL : List (Nat × Fact Kp)) (J : Nat → List Value → World → Prop) (js : List (List Nat)) (t0 : Array Value) (df : List Deferred) (ds : List Nat) (pt : List (List Nat)) (st : List Nat) (listed : Array Bool) (a : Act) (w : World) : Prop where
 fr : ∃ k u, a = ⟨fillL u ds t0, df⟩ ∧ (∀ d, Written ops listed d → (look FL d).p (u d) w) ∧ J k ((js.getD k []).map u) w ∧ k ≤ st.length ∧ (∀ m, m < k → listed.getD (st.getD m 0) false = true) ∧
  (∀ m, k ≤ m → m < st.length → listed.getD (st.getD m 0) false = false) ∧ (∀ d ∈ js.getD k [], Written ops listed d) ∧ (∀ d ∈ al, Written ops listed d → ∃ g, u d = .pointer (some ⟨g, 0, none⟩) ∧ g < w.heap.size) ∧
  (∀ d ∈ al, ∀ d' ∈ al, d ≠ d' → Written ops listed d → Written ops listed d' → u d ≠ u d')
 cl : ∀ i, listed.getD i false = true → ∀ d ∈ pt.getD i [], Written ops listed d
 cs : ∀ j oj, ops[j]? = some oj → listed.getD j false = true → ∀ e ∈ oj.after, Region.binds .any e = true → listed.getD e.on false = true
 sz : listed.size = ops.size
theorem inv_step (hc : Chk al ops pt ds st js lm ln) (hsz : ∀ w w' : World, Kp w w' → w.heap.size ≤ w'.heap.size) (hrk : ∀ w w' : World, Rp w w' → Kp w w') (hst : ∀ k l w w', Rp w w' → J k l w → J k l w') (hs : StepsOk Rp al P ops Q FL J js (fun u => fillL u ds t0) df pt st lm ln ops.toList 0) {listed : Array Bool} {a : Act} {w : World}
    (hI : Inv al ops FL J js t0 df ds pt st listed a w) {i : Nat} (hi : i ∈ Region.ready .any ops listed) :
    wpOp P ops Q i (Inv al ops FL J js t0 df ds pt st (listed.setIfInBounds i true)) a w := by
  obtain ⟨h0, o, ho, hall⟩ := mem_ready.1 hi
  have hlt : i < ops.size := (Array.getElem?_eq_some_iff.1 ho).1
  have hil : i < listed.size := by rw [hI.sz]; exact hlt
  have hun : listed.getD i false = false := by rw [← getD_flag hil]; exact h0
  obtain ⟨k, u, rfl, hfac, hJ, hk, hk1, hk2, hk3, hk4, hk5⟩ := hI.fr
  have hneed : ∀ d ∈ pt.getD i [], Written ops listed d := by
    intro d hd
    obtain ⟨e, he, hb, h1⟩ := hc.need i o ho d hd
    have h2 := hall e he hb
    rcases h1 with ⟨o', h3, h4⟩ | h3
    · exact ⟨e.on, o', h2, h3, h4⟩
    · exact hI.cl e.on h2 d h3
  have hstep := steps_at _ _ hs i o (by simpa using ho)
  rw [Nat.zero_add] at hstep
  have hcs : ∀ j oj, ops[j]? = some oj → (listed.setIfInBounds i true).getD j false = true → ∀ e ∈ oj.after, Region.binds .any e = true → (listed.setIfInBounds i true).getD e.on false = true := by
    intro j oj hj hl e he hb
    by_cases hij : i = j
    · subst hij
      have : oj = o := Option.some.inj (hj.symm.trans ho)
      subst this
      exact getD_set_true (hall e he hb)
    · rw [getD_set_ne false hij] at hl
      exact getD_set_true (hI.cs j oj hj hl e he hb)
  have hcl : ∀ j, (listed.setIfInBounds i true).getD j false = true → ∀ d ∈ pt.getD j [], Written ops (listed.setIfInBounds i true) d := by
    intro j hj d hd
    by_cases hij : i = j
    · subst hij; exact (hneed d hd).more
    · rw [getD_set_ne false hij] at hj
      exact (hI.cl j hj d hd).more
  have hwait : ∀ m, m < k → ∀ j, Region.waitsFor .any ops (st.getD m 0) j = true → listed.getD j false = true := by
    intro m hm j hw
    obtain ⟨oj, hoj, e, he, hb, hon⟩ := Region.waitsFor_spec hw
    rw [← hon]
    exact hI.cs _ oj hoj (hk1 m hm) e he hb
  have hwait2 : ∀ m, m < k → ∀ j, waits2 ops (st.getD m 0) j = true → listed.getD j false = true := by
    intro m hm j hw
    unfold waits2 at hw
    rw [Bool.or_eq_true] at hw
    rcases hw with hw | hw
    · exact hwait m hm j hw
    · obtain ⟨x, -, hx⟩ := List.any_eq_true.1 hw
      rw [Bool.and_eq_true] at hx
      obtain ⟨oj, hoj, e, he, hb, hon⟩ := Region.waitsFor_spec hx.2
      rw [← hon]
      exact hI.cs _ oj hoj (hwait m hm x hx.1) e he hb
  cases hsi : st.idxOf? i with
  | none =>
    rw [hsi] at hstep
    have hns : ∀ m, m < st.length → st.getD m 0 ≠ i := by
      intro m hm e
      have h1 : i ∈ st := by rw [← e]; simp [hm]
      have h2 := List.idxOf?_eq_none_iff.1 hsi
      exact h2 h1
    have hlim : k ≤ lm.getD i st.length := by
      rcases hc.lim i hlt with h1 | h1
      · omega
      · rcases Nat.lt_or_ge (lm.getD i st.length) k with h2 | h2
        · exfalso
          have h3 := hwait2 _ h2 i (by
            have e : st.getD (lm.getD i st.length) ops.size = st.getD (lm.getD i st.length) 0 := by
              have : lm.getD i st.length < st.length := by omega
              generalize lm.getD i st.length = z at *
              simp [this]
            rw [← e]; exact h1)
          rw [hun] at h3; cases h3
        · exact h2
    have hlow : ln.getD i 0 ≤ k := by
      rcases hc.low i hlt with h1 | ⟨h0, h1⟩
      · omega
      · rcases Nat.lt_or_ge k (ln.getD i 0) with h2 | h2
        · exfalso
          have h3 : listed.getD (st.getD (ln.getD i 0 - 1) 0) false = true := by
            unfold waits2 at h1
            rw [Bool.or_eq_true] at h1
            rcases h1 with h1 | h1
            · obtain ⟨oj, hoj, e, he, hb, hon⟩ := Region.waitsFor_spec h1
              have : oj = o := Option.some.inj (hoj.symm.trans ho)
              subst this
              rw [← hon]; exact hall e he hb
            · obtain ⟨x, -, hx⟩ := List.any_eq_true.1 h1
              rw [Bool.and_eq_true] at hx
              obtain ⟨oj, hoj, e, he, hb, hon⟩ := Region.waitsFor_spec hx.1
              have : oj = o := Option.some.inj (hoj.symm.trans ho)
              subst this
              have h4 := hall e he hb
              rw [hon] at h4
              obtain ⟨oj2, hoj2, e2, he2, hb2, hon2⟩ := Region.waitsFor_spec hx.2
              rw [← hon2]
              exact hI.cs _ oj2 hoj2 h4 e2 he2 hb2
          rw [hk2 (ln.getD i 0 - 1) (by omega) (by omega)] at h3
          cases h3
        · exact h2
    refine wpOp_step ho (fun K' hK => hstep k u w hlim hlow hJ (facts_mk fun d hd => hfac d (hneed d hd)) K' ?_)
    intro v w' hb hf hao
    have hwi : ∀ d, Written ops (listed.setIfInBounds i true) d → o.dst = some d ∨ Written ops listed d := by
      rintro d ⟨j, o', h1, h2, h3⟩
      by_cases hij : i = j
      · subst hij
        rw [ho] at h2
        injection h2 with h2
        subst h2
        exact .inl h3
      · rw [getD_set_ne false hij] at h1
        exact .inr ⟨j, o', h1, h2, h3⟩
    have hnw : ∀ d, o.dst = some d → ¬ Written ops listed d := by
      rintro d hd ⟨j, o', h1, h2, h3⟩
      have := hc.once i j o o' d ho h2 hd h3
      subst this
      rw [hun] at h1; cases h1
    have hne : ∀ d, o.dst ≠ some d → upd u o.dst v d = u d := by
      intro d hd
      cases h : o.dst with
      | none => rfl
      | some d' => rw [h] at hd; simp only [upd]; rw [if_neg (fun h => hd (by rw [h]))]
    have hal : ∀ d ∈ al, o.dst = some d → v = .pointer (some ⟨w.heap.size, 0, none⟩) ∧ w.heap.size < w'.heap.size := by
      intro d hd h
      unfold aOk at hao
      rw [h] at hao
      dsimp only at hao
      rw [show al.contains d = true by simpa using hd] at hao
      exact hao
    refine hK _ _ ⟨⟨k, upd u o.dst v, put_fill u o v (hc.dst i o ho), ?_, ?_, hk, fun m hm => getD_set_true (hk1 m hm), fun m hm hm' => ?_, fun d hd => (hk3 d hd).more, fun d hd hw => ?_, fun d hd d' hd' hdd hw hw' => ?_⟩, hcl, hcs, by simpa using hI.sz⟩
    · rintro d ⟨j, o', h1, h2, h3⟩
      by_cases hd : o.dst = some d
      · rw [hd] at hf ⊢
        have e : upd u (some d) v d = v := by simp [upd]
        rw [e]; exact hf
      · have hw : Written ops listed d := by
          by_cases hij : i = j
          · subst hij
            rw [ho] at h2
            injection h2 with h2
            subst h2
            exact absurd h3 hd
          · rw [getD_set_ne false hij] at h1
            exact ⟨j, o', h1, h2, h3⟩
        have e : upd u o.dst v d = u d := by
          cases h : o.dst with
          | none => rfl
          | some d' => rw [h] at hd; simp only [upd]; rw [if_neg (fun h => hd (by rw [h]))]
        rw [e]
        exact (look FL d).st _ _ _ (hrk _ _ hb) (hfac d hw)
    · have e : (js.getD k []).map (upd u o.dst v) = (js.getD k []).map u := by
        apply List.map_congr_left
        intro d hd
        cases h : o.dst with
        | none => rfl
        | some d' =>
          simp only [upd]
          rw [if_neg]
          rintro rfl
          obtain ⟨j, o', h1, h2, h3⟩ := hk3 d hd
          have := hc.once i j o o' d ho h2 h h3
          subst this
          rw [hun] at h1; cases h1
      rw [e]
      exact hst _ _ _ _ hb hJ
    · rw [getD_set_ne false (Ne.symm (hns m hm'))]; exact hk2 m hm hm'
    · by_cases h : o.dst = some d
      · obtain ⟨h1, h2⟩ := hal d hd h
        exact ⟨w.heap.size, by rw [h]; simp [upd, h1], h2⟩
      · rcases hwi d hw with h1 | h1
        · exact absurd h1 h
        · obtain ⟨g, h2, h3⟩ := hk4 d hd h1
          exact ⟨g, by rw [hne d h]; exact h2, Nat.lt_of_lt_of_le h3 (hsz _ _ (hrk _ _ hb))⟩
    · by_cases h : o.dst = some d
      · have h' : o.dst ≠ some d' := fun h2 => hdd (by rw [h] at h2; injection h2)
        rcases hwi d' hw' with h1 | h1
        · exact absurd h1 h'
        · obtain ⟨g, h2, h3⟩ := hk4 d' hd' h1
          rw [hne d' h', h2, h]
          simp only [upd, if_pos]
          rw [(hal d hd h).1]
          intro he
          simp at he <;> omega
      · rcases hwi d hw with h1 | h1
        · exact absurd h1 h
        · by_cases h' : o.dst = some d'
          · obtain ⟨g, h2, h3⟩ := hk4 d hd h1
            rw [hne d h, h2, h']
            simp only [upd, if_pos]
            rw [(hal d' hd' h').1]
            intro he
            simp at he <;> omega
          · rcases hwi d' hw' with h2 | h2
            · exact absurd h2 h'
            · rw [hne d h, hne d' h']; exact hk5 d hd d' hd' hdd h1 h2
  | some m =>
    rw [hsi] at hstep
    obtain ⟨hm, hmi, -⟩ := List.idxOf?_eq_some_iff.1 hsi
    have hmi' : st.getD m 0 = i := by simp [hm]; exact hmi
    have hmk : m = k := by
      rcases Nat.lt_trichotomy m k with h1 | h1 | h1
      · have := hk1 m h1; rw [hmi', hun] at this; cases this
      · exact h1
      · exfalso
        have h2 := hc.schain m (by omega) hm
        rw [hmi'] at h2
        obtain ⟨oj, hoj, e, he, hb, hon⟩ := Region.waitsFor_spec h2
        have : oj = o := Option.some.inj (hoj.symm.trans ho)
        subst this
        have h3 := hall e he hb
        rw [hon, hk2 (m - 1) (by omega) (by omega)] at h3
        cases h3
    subst hmk
    have hwal : ∀ d ∈ al, Written ops listed d := by
      intro d hd
      obtain ⟨j, o', h1, h2, h3⟩ := hc.alw d hd m hm
      rw [hmi'] at h3
      refine ⟨j, o', ?_, h1, h2⟩
      unfold waits2 at h3
      rw [Bool.or_eq_true] at h3
      rcases h3 with h3 | h3
      · obtain ⟨oj, hoj, e, he, hb, hon⟩ := Region.waitsFor_spec h3
        have : oj = o := Option.some.inj (hoj.symm.trans ho)
        subst this
        rw [← hon]; exact hall e he hb
      · obtain ⟨x, -, hx⟩ := List.any_eq_true.1 h3
        rw [Bool.and_eq_true] at hx
        obtain ⟨oj, hoj, e, he, hb, hon⟩ := Region.waitsFor_spec hx.1
        have : oj = o := Option.some.inj (hoj.symm.trans ho)
        subst this
        have h4 := hall e he hb
        rw [hon] at h4
        obtain ⟨oj2, hoj2, e2, he2, hb2, hon2⟩ := Region.waitsFor_spec hx.2
        rw [← hon2]
        exact hI.cs _ oj2 hoj2 h4 e2 he2 hb2
    refine wpOp_step ho (fun K' hK => hstep u w hJ (fun d hd d' hd' hdd => hk5 d hd d' hd' hdd (hwal d hd) (hwal d' hd')) (facts_mk fun d hd => hfac d (hneed d hd)) K' ?_)
    intro v w' hJ' hb hf
    have hnw : ∀ d, o.dst = some d → ¬ Written ops listed d := by
      rintro d hd ⟨j, o', h1, h2, h3⟩
      have := hc.once i j o o' d ho h2 hd h3
      subst this
      rw [hun] at h1; cases h1
    have hne : ∀ d, o.dst ≠ some d → upd u o.dst v d = u d := by
      intro d hd
      cases h : o.dst with
      | none => rfl
      | some d' => rw [h] at hd; simp only [upd]; rw [if_neg (fun h => hd (by rw [h]))]
    have hnl : ∀ d ∈ al, o.dst ≠ some d := fun d hd h => hnw d h (hwal d hd)
    refine hK _ _ ⟨⟨m + 1, upd u o.dst v, put_fill u o v (hc.dst i o ho), ?_, hJ', hm, fun j hj => ?_, fun j hj hj' => ?_, fun d hd => ?_, fun d hd hw => ?_, fun d hd d' hd' hdd hw hw' => by rw [hne d (hnl d hd), hne d' (hnl d' hd')]; exact hk5 d hd d' hd' hdd (hwal d hd) (hwal d' hd')⟩, hcl, hcs, by simpa using hI.sz⟩
    · rintro d ⟨j, o', h1, h2, h3⟩
      by_cases hd : o.dst = some d
      · rw [hd] at hf ⊢
        have e : upd u (some d) v d = v := by simp [upd]
        rw [e]; exact hf
      · have hw : Written ops listed d := by
          by_cases hij : i = j
          · subst hij
            rw [ho] at h2
            injection h2 with h2
            subst h2
            exact absurd h3 hd
          · rw [getD_set_ne false hij] at h1
            exact ⟨j, o', h1, h2, h3⟩
        rw [hne d hd]
        exact (look FL d).st _ _ _ hb (hfac d hw)
    · by_cases h1 : j = m
      · subst h1; rw [hmi']; simp [hil]
      · exact getD_set_true (hk1 j (by omega))
    · have h1 := hk2 j (by omega) hj'
      by_cases h2 : st.getD j 0 = i
      · exfalso
        have h3 : ∀ n, m ≤ n → n < st.length → i ≤ st.getD n 0 ∧ (m < n → i < st.getD n 0) := by
          intro n
          induction n with
          | zero => intro h4 h5; exact ⟨by have : m = 0 := by omega
                                           subst this; rw [hmi']; exact Nat.le_refl _, fun h => by omega⟩
          | succ n ih =>
            intro h4 h5
            by_cases h6 : m = n + 1
            · subst h6; exact ⟨by rw [hmi']; exact Nat.le_refl _, fun h => by omega⟩
            · have h7 := ih (by omega) (by omega)
              have h8 := hc.schain (n + 1) (by omega) h5
              obtain ⟨oj, hoj, e, he, hb', hon⟩ := Region.waitsFor_spec h8
              have h9 := hc.edge _ oj hoj e he hb'
              rw [hon, Nat.add_sub_cancel] at h9
              exact ⟨by omega, fun _ => by omega⟩
        have := (h3 j (by omega) hj').2 (by omega)
        omega
      · rw [getD_set_ne false (Ne.symm h2)]; exact h1
    · rcases hc.sjs m hm d hd with h1 | h1
      · rw [hmi'] at h1; exact (hneed d h1).more
      · rcases h1 with h1 | ⟨o2, h1, h2⟩
        · exact (hk3 d h1).more
        · rw [hmi'] at h1
          exact ⟨i, o2, by simp [hil], h1, h2⟩
    · obtain ⟨g, h1, h2⟩ := hk4 d hd (hwal d hd)
      exact ⟨g, by rw [hne d (hnl d hd)]; exact h1, Nat.lt_of_lt_of_le h2 (hsz _ _ hb)⟩
theorem ready_nil_all (hc : Chk al ops pt ds st js lm ln) {listed : Array Bool} (hsz : listed.size = ops.size) (hr : Region.ready .any ops listed = []) : ∀ n i, i < n → i < ops.size → listed.getD i false = true := by
 intro n
 induction n with
 | zero => intro i h; omega
 | succ n ih =>
  intro i hin hi
  have hil : i < listed.size := by omega
  cases hv : listed.getD i false with
  | true => rfl
  | false =>
   exfalso
   have ho : ops[i]? = some ops[i] := by simp [hi]
   have : i ∈ Region.ready .any ops listed := by
    rw [mem_ready]
    refine ⟨by simp [hil] at hv ⊢; exact hv, _, ho, fun e he hb => ?_⟩
    have h1 := hc.edge i _ ho e he hb
    exact ih e.on (by omega) (by omega)
   rw [hr] at this
   cases this
theorem wpAny_inv (hc : Chk al ops pt ds st js lm ln) (hsz : ∀ w w' : World, Kp w w' → w.heap.size ≤ w'.heap.size) (hrk : ∀ w w' : World, Rp w w' → Kp w w') (hst : ∀ k l w w', Rp w w' → J k l w → J k l w') (hs : StepsOk Rp al P ops Q FL J js (fun u => fillL u ds t0) df pt st lm ln ops.toList 0)
  (hend : ∀ u w, J st.length ((js.getD st.length []).map u) w → Facts FL u w ds → Q .normal ⟨fillL u ds t0, df⟩ w) :
  ∀ (fuel : Nat) (listed : Array Bool) (a : Act) (w : World), ((List.range ops.size).filter fun j => !listed.getD j true).length ≤ fuel → Inv al ops FL J js t0 df ds pt st listed a w → wpAny P .any ops Q fuel listed a w := by
 have hfin : ∀ (listed : Array Bool) (a : Act) (w : World), Inv al ops FL J js t0 df ds pt st listed a w → Region.ready .any ops listed = [] → Q .normal a w := by
  intro listed a w hI hr
  obtain ⟨k, u, rfl, hfac, hJ, hk, hk1, hk2, hk3, hk4, hk5⟩ := hI.fr
  have hall := Go.Proofs.YtbcphcheomojdaaGreat.AK.ready_nil_all hc hI.sz hr
  have hkl : k = st.length := by
   rcases Nat.lt_or_ge k st.length with h | h
   ·have h1 := hk2 k (Nat.le_refl _) h
    rw [hall (st.getD k 0 + 1) _ (by omega) (hc.slt k h)] at h1
    cases h1
   ·omega
  subst hkl
  refine hend u w hJ (facts_mk fun d hd => hfac d ?_)
  obtain ⟨i, o, h1, h2⟩ := hc.wr d hd
  exact ⟨i, o, hall (i + 1) i (by omega) (Array.getElem?_eq_some_iff.1 h1).1, h1, h2⟩
 intro fuel
 induction fuel with
 | zero =>
  intro listed a w hcnt hI
  have hr : Region.ready .any ops listed = [] := by
   rw [List.eq_nil_iff_forall_not_mem]
   intro j hj
   obtain ⟨h0, o, ho, -⟩ := mem_ready.1 hj
   have hlt : j < ops.size := (Array.getElem?_eq_some_iff.1 ho).1
   have hm : j ∈ (List.range ops.size).filter fun j => !listed.getD j true := by
    rw [List.mem_filter]
    exact ⟨List.mem_range.2 hlt, by rw [h0]; rfl⟩
   have := List.length_pos_of_mem hm
   omega
  exact ⟨hr, hfin _ _ _ hI hr⟩
 | succ fuel ih =>
  intro listed a w hcnt hI
  refine ⟨fun hr => hfin _ _ _ hI hr, fun i hi => ?_⟩
  obtain ⟨h0, o, ho, -⟩ := mem_ready.1 hi
  have hlt : i < ops.size := (Array.getElem?_eq_some_iff.1 ho).1
  refine wpOp_mono (fun a' w' hI' => ih _ a' w' ?_ hI') (inv_step hc hsz hrk hst hs hI hi)
  have := filter_less (p := fun j => !listed.getD j true) (q := fun j => !(listed.setIfInBounds i true).getD j true) (i := i) (by simp only [h0]; rfl) (by
   have hil : i < listed.size := by rw [hI.sz]; exact hlt
   simp [hil]) (fun j hj => by
   by_cases hij : i = j
   ·subst hij
    exfalso
    have hil : i < listed.size := by rw [hI.sz]; exact hlt
    simp [hil] at hj
   ·rw [getD_set_ne true hij] at hj; exact hj) (List.range ops.size) (List.mem_range.2 hlt)
  omega
theorem region_facts {id : Nat} {w : World} {opl : List Oper} (FL : List (Nat × Fact Kp)) (J : Nat → List Value → World → Prop) (pt : List (List Nat)) (st : List Nat) (js : List (List Nat)) (lm ln : List Nat) (al : List Nat) {fr : (Nat → Value) → Array Value} (hfr : ∀ u, fillL u (temps FL) t0 = fr u)
  (hm : P.follows .mixedOrders = true) (hchk : chk al opl.toArray pt (temps FL) st js lm ln = true) (hsz : ∀ w w' : World, Kp w w' → w.heap.size ≤ w'.heap.size) (hrk : ∀ w w' : World, Rp w w' → Kp w w') (hst : ∀ k l w w', Rp w w' → J k l w → J k l w') (hJ : J 0 [] w.drew)
  (hs : StepsOk Rp al P opl.toArray Q FL J js fr df pt st lm ln opl 0)
  (hend : ∀ u w, J st.length ((js.getD st.length []).map u) w → Facts FL u w (temps FL) → Q .normal ⟨fr u, df⟩ w) : (Code.region id opl.toArray true).wp P Q ⟨t0, df⟩ w := by
 obtain rfl : (fun u => fillL u (temps FL) t0) = fr := funext hfr
 have hc := chk_spec hchk
 refine wp_region_any hm (wpAny_inv (t0 := t0) hc hsz hrk hst hs hend opl.toArray.size _ _ _ ?_ ⟨⟨0, fun d => t0.getD d undef, by rw [fillL_self], ?_, by rw [hc.js0]; exact hJ, Nat.zero_le _, fun m h => by omega, fun m _ _ => none_listed _ _, fun d hd => (by rw [hc.js0] at hd; cases hd), fun d _ hw => (by obtain ⟨j, o', h1, _, _⟩ := hw; rw [none_listed] at h1; cases h1), fun d _ d' _ _ hw => by obtain ⟨j, o', h1, _, _⟩ := hw; rw [none_listed] at h1; cases h1⟩, ?_, ?_, by simp⟩)
 ·exact Nat.le_trans (List.length_filter_le _ _) (by simp)
 ·rintro d ⟨j, o', h1, -, -⟩
  rw [none_listed] at h1; cases h1
 ·intro i hi
  rw [none_listed] at hi; cases hi
 ·intro j oj _ hl
  rw [none_listed] at hl; cases hl
end
end Go.Proofs.YtbcphcheomojdaaGreat.AK
namespace Go.Proofs.YtbcphcheomojdaaGreat
open Go.RowKit
abbrev Below0 (w w' : World) : Prop := Below w.heap.size w w'
structure Only (S : Nat → Prop) (w w' : World) : Prop where
 os : w'.os = w.os
 tape : w'.tape = w.tape
 output : w'.output = w.output
 size : w.heap.size ≤ w'.heap.size
 blk : ∀ k, k < w.heap.size → ¬ S k → w'.heap[k]? = w.heap[k]?
section
variable {S T : Nat → Prop} {w w' w2 : World} {B b : Nat}
theorem Only.refl (w : World) : Only S w w := ⟨rfl, rfl, rfl, Nat.le_refl _, fun _ _ _ => rfl⟩
theorem Only.trans (h : Only S w w') (k : Only S w' w2) : Only S w w2 :=
 ⟨k.os.trans h.os, k.tape.trans h.tape, k.output.trans h.output, Nat.le_trans h.size k.size, fun i hi hs => (k.blk i (Nat.lt_of_lt_of_le hi h.size) hs).trans (h.blk i hi hs)⟩
theorem Only.of (h : Below w.heap.size w w') : Only S w w' := ⟨h.os, h.tape, h.output, h.size, fun k hk _ => h.block k hk⟩
theorem Only.setCell (w : World) {a : Addr} (ha : S a.block) (v : Value) : Only S w (w.setCell a v) :=
 ⟨rfl, rfl, rfl, by simp [World.setCell], fun k _ hs => Below.heap_setCell _ _ _ _ (fun e => hs (e ▸ ha))⟩
theorem Only.setCells {b : Nat} (hb : S b) : ∀ (vs : List Value) (o : Nat) (w : World), Only S w (w.setCells b o vs)
 | [], _, w => Only.refl w
 | v :: r, o, w => by
  rw [World.setCells]
  exact (Only.setCell w (a := ⟨b, o, none⟩) hb v).trans (Only.setCells hb r (o + 1) _)
theorem Only.below (h : Only S w w') (hS : ∀ k, S k → B ≤ k) (hB : B ≤ w.heap.size) : Below B w w' :=
 ⟨h.os, h.tape, h.output, h.size, fun k hk => h.blk k (by omega) (fun hs => by have := hS k hs; omega)⟩
end
structure Wh (t : TypeId) (w : World) (b : Nat) (cs : List Value) : Prop where
 blk : w.heap[b]? = some (.cells cs.toArray t (0, 0))
section
variable {t : TypeId} {w w' : World} {b : Nat} {cs : List Value}
theorem Wh.lt (h : Wh t w b cs) : b < w.heap.size := by
 rcases Nat.lt_or_ge b w.heap.size with hlt | hge
 ·exact hlt
 ·have := h.blk; rw [Array.getElem?_eq_none hge] at this; cases this
theorem Wh.cell (h : Wh t w b cs) (i : Nat) : w.cell? ⟨b, i, none⟩ = cs[i]? := by simp [World.cell?, h.blk]
theorem Wh.at (h : Wh t w b cs) (i : Nat) (v : Value) (hv : cs[i]? = some v) : w.cell? ⟨b, i, none⟩ = some v := (h.cell i).trans hv
theorem Wh.frozen (h : Wh t w b cs) (i : Nat) : w.frozen? ⟨b, i, none⟩ = false := by simp [World.frozen?, h.blk]
theorem Wh.rg (h : Wh t w b cs) : Rg w b cs := ⟨fun j v hj => h.at j v hj, h.lt⟩
theorem Wh.range (h : Wh t w b cs) : w.rangeAt b 0 cs := fun j v hv => by rw [Nat.zero_add]; exact h.at j v hv
theorem Wh.there (h : Wh t w b cs) {o n : Nat} (hn : o + n ≤ cs.length) : w.there b o n := fun j hj => by
 constructor
 ·rw [h.cell, List.getElem?_eq_getElem (by omega)]; rfl
 ·exact h.frozen _
theorem Wh.same (h : Wh t w b cs) (hk : w'.heap[b]? = w.heap[b]?) : Wh t w' b cs := ⟨hk.trans h.blk⟩
theorem Wh.up (h : Wh t w b cs) (hb : Below w.heap.size w w') : Wh t w' b cs := h.same (hb.block b h.lt)
theorem Wh.new (w : World) (t : TypeId) (cs : List Value) : Wh t (w.alloc (.cells cs.toArray t)) w.heap.size cs := ⟨heap_alloc_new w _⟩
theorem Wh.set (h : Wh t w b cs) (i : Nat) (v : Value) : Wh t (w.setCell ⟨b, i, none⟩ v) b (cs.set i v) := by
 refine ⟨?_⟩
 simp [World.setCell, Array.getElem?_modify, h.blk]
theorem Wh.sets : ∀ (vs : List Value) {w : World} {xs ys zs : List Value}, Wh t w b (xs ++ ys ++ zs) → vs.length = ys.length → Wh t (w.setCells b xs.length vs) b (xs ++ vs ++ zs)
 | [], w, xs, ys, zs, h, hl => by
  obtain rfl : ys = [] := List.eq_nil_of_length_eq_zero hl.symm
  exact h
 | v :: vs, w, xs, [], zs, h, hl => by simp at hl
 | v :: vs, w, xs, y :: ys, zs, h, hl => by
  rw [World.setCells]
  have h1 := h.set xs.length v
  have e1 : (xs ++ (y :: ys) ++ zs).set xs.length v = (xs ++ [v]) ++ ys ++ zs := by simp
  rw [e1] at h1
  have h2 := Wh.sets vs h1 (by simpa using hl)
  have e2 : (xs ++ [v]).length = xs.length + 1 := by simp
  rw [e2] at h2
  simpa using h2
theorem Wh.put (h : Wh t w b cs) (vs : List Value) (hl : vs.length = cs.length) : Wh t (w.setCells b 0 vs) b vs := by
 have h1 := Wh.sets (xs := []) (ys := cs) (zs := []) vs (by simpa using h) hl
 simpa using h1
end
theorem wp_build_is {P : Program} {o : Oper} {a : Act} {w : World} {K : Act → World → Prop} {Q : Exit → Act → World → Prop} (ty : TypeId) (ps : Array (Nat × Operand)) (hop : o.op = .build ty ps) (L : List (Nat × Value)) (hL : (ps.toList.map fun p => (p.1, a.eval p.2)) = L) (V : Value)
  (hl : (Instr.build ty L.toArray).run P w = .ok V w) (h : K (a.put o.dst V) w) : o.wp P a w K Q := by
 have he : (ps.map fun p => (p.1, a.eval p.2)) = L.toArray := by rw [← hL]; exact Array.ext' (by rw [Array.toList_map])
 have hl2 : (Instr.build ty (ps.map fun x => match x with | (i, x) => (i, a.eval x))).run P w = .ok V w := by
  rw [← he] at hl; exact hl
 unfold Oper.wp execOp
 simp only [hop, Sem.run_bind, hl2, Sem.run_pure, Result.andThen_ok]
 exact h
theorem wp_app_lines {P : Program} {o : Oper} {a : Act} {w : World} {K : Act → World → Prop} {Q : Exit → Act → World → Prop} (s x : Operand) (t : TypeId)
  (ho : o.op = .call { callee := .builtin .append, args := #[s, x], argTypes := #[t, t] })
  (base : Nat) (e : TypeId) (i : TypeInfo) (bytes : Nat) (ht : P.underlying t = some (.slice e)) (hi : P.info? e = some i) (hz : i.zero = some (.agg #[.int .i64 0, .int .i64 0, .int .i64 0])) (hsize : i.size = 3) (hby : i.bytes = bytes) (hb8 : bytes ≤ 24)
  (v : Value) (L : List Lnk) (hs : a.eval s = v) (hown : OwnL e w base v L) (X : Option Addr) (m c : Nat) (M : List Lnk) (hm : M.length = m) (hx : a.eval x = .slice X m c) (hX : LnkAt w X M)
  (hlen : L.length + m ≤ 100000000) (hbase : base ≤ w.heap.size)
  (h : ∀ v' w', Hid (OwnL e w' base v' (L ++ M)) → Hid (w.grownBy w' v.ownBlock) → Below base w w' → K (a.put o.dst v') w') : Oper.wp P o a w K Q := by
 have h9 := step_app_lines (P := P) (ops := #[]) (o := { o with guard := none }) (a := a) (tm := #[]) (w := w) (K := K) (Q := Q) (E := True) rfl s x t ho base e i bytes ht hi hz hsize hby hb8 v L hs hown X m c M hm hx hX hlen hbase h
 rw [if_pos (by simp [Region.wanted])] at h9
 exact h9
theorem wpList_store_wh {P : Program} {ops : Array Oper} {rest : List Oper} {o : Oper} {a : Act} {w : World} {Q : Exit → Act → World → Prop} (hg : o.guard = none) (ty : TypeId) (x y : Operand) (hop : o.op = .store ty x y)
  (b : Nat) (hx : a.eval x = .pointer (some ⟨b, 0, none⟩)) (t : TypeId) (cs vs : List Value) (hy : a.eval y = .agg vs.toArray) (hw : Wh t w b cs) (hl : vs.length = cs.length)
  (hi : (P.info? ty).map (·.size) = some vs.toArray.size) (h1 : vs.toArray.all (·.oneCell') = true)
  (h : ∀ W, Hid (Wh t W b vs) → Hid (Only (fun k => k = b) w W) → W.heap.size = w.heap.size → wpList P ops Q rest (a.put o.dst undef) W) : wpList P ops Q (o :: rest) a w :=
 wpList_store_mid hg ty x y hop b 0 vs.toArray hx hy (hw.there (by simp [hl])) hi h1 (h _ (Lib.hid (hw.put vs hl)) (Lib.hid (Only.setCells (S := fun k => k = b) rfl vs 0 w)) (by
  have : ∀ (vs : List Value) (o : Nat) (w : World), (w.setCells b o vs).heap.size = w.heap.size := by
   intro vs
   induction vs with
   | nil => intro o w; rfl
   | cons v r ih => intro o w; rw [World.setCells, ih]; exact World.size_setCell _ _ _
  exact this _ _ _))
theorem only_new {w W : World} {o : Obj} (h : Only (fun k => k = w.heap.size) (w.alloc o) W) : Below w.heap.size w W :=
 (below_alloc_new o).trans (h.below (B := w.heap.size) (fun k hk => Nat.le_of_eq hk.symm) (by simp))
open Go.RowKit
def OwnRv (s0 : Nat) (X : List Lnk) (v : Value) (w : World) : Prop := ∃ B, s0 + 2 ≤ B ∧ OwnL 66 w B v (X.map negL)
theorem OwnRv.only {s0 : Nat} {X : List Lnk} {v : Value} {w w' : World} (h : OwnRv s0 X v w) (hb : Only (· = s0 + 1) w w') : OwnRv s0 X v w' := by
 obtain ⟨B, h1, h2⟩ := h
 exact ⟨B, h1, h2.blk fun g hg => hb.blk g (h2.lt hg).2 (by have := (h2.lt hg).1; intro e; omega)⟩
theorem OwnRv.set {s0 : Nat} {X : List Lnk} {v : Value} {w : World} (h : OwnRv s0 X v w) (vs : List Value) : OwnRv s0 X v (w.setCells (s0 + 1) 0 vs) := h.only (Only.setCells (S := fun k => k = s0 + 1) rfl _ _ _)
def rvP (s0 : Nat) (x : Ety) (X : List Lnk) (v : Value) (w : World) : Prop := ∃ A c, v = .slice A x.n c ∧ OwnRv s0 X v w
def rvQ (s0 : Nat) (x : Ety) (X : List Lnk) (a b : Int) (v : Value) (w : World) : Prop := ∃ A c, v = etyV (revE x a b A c) ∧ OwnRv s0 X (.slice A x.n c) w
def rvF (s0 : Nat) (x : Ety) (X : List Lnk) : AK.Fact (Only (· = s0 + 1)) := ⟨rvP s0 x X, fun _ _ _ hb ⟨A, c, h1, h2⟩ => ⟨A, c, h1, h2.only hb⟩⟩
def rvG (s0 : Nat) (x : Ety) (X : List Lnk) (a b : Int) : AK.Fact (Only (· = s0 + 1)) := ⟨rvQ s0 x X a b, fun _ _ _ hb ⟨A, c, h1, h2⟩ => ⟨A, c, h1, h2.only hb⟩⟩
theorem rvP_mk {s0 : Nat} {x : Ety} {X : List Lnk} {v : Value} {B : Nat} {w w2 : World} (h : OwnL 66 w B v (X.map negL)) (hn : X.length = x.n) (hs : w2.heap.size ≤ B) (h2 : w2.heap.size = s0 + 2) : rvP s0 x X v w := by
 obtain ⟨A, c, h3, h4⟩ := h.reads
 rw [List.length_map, hn] at h3
 exact ⟨A, c, h3, B, by omega, h⟩
def rvJ (w w2 : World) (s0 : Nat) (x : Ety) (X : List Lnk) (a b : Int) : Nat → List Value → World → Prop
 | 0, _, W => Wh 32 W s0 (etyC x) ∧ Wh 32 W (s0 + 1) [.int .i64 0, .int .i64 0, .int .i64 0, .int .i64 0, .int .i64 0, .string ⟨#[]⟩, .slice none 0 0] ∧ Below w2.heap.size w2 W
 | _ + 1, _, W => ∃ A c, Wh 32 W (s0 + 1) (etyC (revE x a b A c)) ∧ OwnRv s0 X (.slice A x.n c) W ∧ Below w.heap.size w W
theorem rvJ.st (w w2 : World) (s0 : Nat) (x : Ety) (X : List Lnk) (a b : Int) : ∀ k l W W', Below W.heap.size W W' → rvJ w w2 s0 x X a b k l W → rvJ w w2 s0 x X a b k l W'
 | 0, _, _, _, hb, ⟨h1, h2, h3⟩ => ⟨h1.up hb, h2.up hb, h3.trans (hb.mono h3.size)⟩
 | _ + 1, _, _, _, hb, ⟨A, c, h1, h2, h3⟩ => ⟨A, c, h1.up hb, h2.only (Only.of hb), h3.trans (hb.mono h3.size)⟩
theorem rv_build (x : Ety) (a b : Int) (A : Option Addr) (c : Nat) (w : World) : (Instr.build 32 #[(0, .int .i64 a), (1, .int .i64 x.ent), (2, .int .i64 b), (3, .int .i64 3), (4, .int .i64 x.id), (5, .string x.txt), (6, .slice A x.n c)]).run Tryz.prog w = .ok (etyV (revE x a b A c)) w :=
 run_build w 32 _ _ (by kernel_rfl)
def rvL (s0 : Nat) (x : Ety) (X : List Lnk) (a b : Int) : List (Nat × AK.Fact (Only (· = s0 + 1))) := [(7, AK.Fact.is (.int .i64 a)), (8, AK.Fact.is (.pointer (some ⟨s0, 1, none⟩))), (9, AK.Fact.is (.int .i64 x.ent)), (10, AK.Fact.is (.int .i64 b)), (11, AK.Fact.is (.pointer (some ⟨s0, 0, none⟩))), (12, AK.Fact.is (.int .i64 x.id)), (13, AK.Fact.is (.pointer (some ⟨s0, 5, none⟩))), (14, AK.Fact.is (.string x.txt)), (15, AK.Fact.is (.pointer (some ⟨s0, 6, none⟩))), (16, AK.Fact.is (.slice x.A x.n x.c)), (17, rvF s0 x X), (18, rvG s0 x X a b)]
set_option maxRecDepth 100000 in
set_option maxHeartbeats 3200000 in
theorem erev_any (x : Ety) (X : List Lnk) (a b : Int) (w : World) (hx : EtyK w x X) (hn : x.n ≤ 1000) : Calls Tryz.prog 12 #[etyV x, .int .i64 a, .int .i64 b] w fun e w' => (∃ A c, e = .returned (etyV (revE x a b A c)) ∧ EtyK w' (revE x a b A c) (X.map negL)) ∧ Below w.heap.size w w' := by
 have HNG := Lib.hid (fun W (h : LnkAt W x.A X) => enegd_any x.A x.c X W h (by rw [hx.ln]; exact hn))
 rw [hx.ln] at HNG
 have HXN := Lib.hid hx.ln
 have HOK := Lib.hid (okL_neg hx.ok)
 obtain ⟨s0, hs0⟩ : ∃ s0, w.heap.size = s0 := ⟨_, rfl⟩
 obtain ⟨w2, hw2⟩ : ∃ w2, (w.alloc (.cells (etyC x).toArray 32)).alloc (.cells #[.int .i64 0, .int .i64 0, .int .i64 0, .int .i64 0, .int .i64 0, .string ⟨#[]⟩, .slice none 0 0] 32) = w2 := ⟨_, rfl⟩
 have HXB : Hid (Wh 32 w2 s0 (etyC x)) := Lib.hid (by rw [← hw2, ← hs0]; exact (Wh.new w _ _).up (below_alloc_new _))
 have HRB : Hid (Wh 32 w2 (s0 + 1) [.int .i64 0, .int .i64 0, .int .i64 0, .int .i64 0, .int .i64 0, .string ⟨#[]⟩, .slice none 0 0]) := Lib.hid (by
  rw [← hw2, ← hs0]
  have h9 := Wh.new (w.alloc (.cells (etyC x).toArray 32)) 32 [.int .i64 0, .int .i64 0, .int .i64 0, .int .i64 0, .int .i64 0, .string ⟨#[]⟩, .slice none 0 0]
  rw [World.size_alloc] at h9
  exact h9)
 have HB2 : Hid (Below w.heap.size w w2) := Lib.hid (by rw [← hw2]; exact below_new (below_alloc_new _) _)
 have HS2 : Hid (w2.heap.size = s0 + 2) := Lib.hid (by rw [← hw2, ← hs0]; simp)
 have HX2 := Lib.hid (hx.up HB2.out)
 have HS0 := Lib.hid hs0
 have hw3 : (etyC x).toArray = #[.int .i64 x.id, .int .i64 x.ent, .int .i64 x.day, .int .i64 x.kind, .int .i64 x.of_, .string x.txt, .slice x.A x.n x.c] := rfl
 rw [hw3] at hw2
 clear hx hw3
 go_enter Tryz.func12, Tryz.ntmps12
 go_wp2_with fail
 refine AK.region_facts (Rp := Below0) (Kp := Only (· = s0 + 1)) (rvL s0 x X a b) (rvJ w w2 s0 x X a b) [[], [], [8], [], [], [11], [], [13], [], [15], [16], [7, 9, 10, 12, 14, 17], [18]] [12] [[], []] [0, 0, 0, 0, 0, 0, 0, 0, 0, 0, 0, 0, 1] [0, 0, 0, 0, 0, 0, 0, 0, 0, 0, 0, 0, 0] [] (fun u => by simp only [rvL, AK.temps, List.map_cons, List.map_nil, fillL, List.setIfInBounds_toArray, List.set_cons_zero, List.set_cons_succ]; rfl) (by kernel_rfl) (by kernel_rfl) (fun _ _ h => h.size) (fun _ _ h => Only.of h) (rvJ.st w w2 s0 x X a b) (⟨HXB.out.up (dc_drew (Below.refl _ _)), HRB.out.up (dc_drew (Below.refl _ _)), dc_drew (Below.refl _ _)⟩) ?_ ?_
 ·refine AK.sc (lim := 0) (lo := 0) rfl rfl rfl rfl ?_ ?_
  ·intro k_ u w_ hk_ hl_ hJ hF K hK
   obtain rfl : k_ = 0 := by omega
   clear hF
   go_simp
   exact hK.out _ _ (Below.refl _ _) (rfl) trivial
  refine AK.sc (lim := 0) (lo := 0) rfl rfl rfl rfl ?_ ?_
  ·intro k_ u w_ hk_ hl_ hJ hF K hK
   obtain rfl : k_ = 0 := by omega
   clear hF
   go_simp
   exact hK.out _ _ (Below.refl _ _) (rfl) trivial
  refine AK.sc (lim := 0) (lo := 0) rfl rfl rfl rfl ?_ ?_
  ·intro k_ u w_ hk_ hl_ hJ hF K hK
   obtain rfl : k_ = 0 := by omega
   have h8 : u 8 = .pointer (some ⟨s0, 1, none⟩) := AK.facts_get hF 8 (by simp)
   clear hF
   simp only [h8] at hK ⊢
   clear h8
   have c_ := hJ.1.at 1 _ rfl
   go_simp
   exact hK.out _ _ (Below.refl _ _) (rfl) trivial
  refine AK.sc (lim := 0) (lo := 0) rfl rfl rfl rfl ?_ ?_
  ·intro k_ u w_ hk_ hl_ hJ hF K hK
   obtain rfl : k_ = 0 := by omega
   clear hF
   go_simp
   exact hK.out _ _ (Below.refl _ _) (rfl) trivial
  refine AK.sc (lim := 0) (lo := 0) rfl rfl rfl rfl ?_ ?_
  ·intro k_ u w_ hk_ hl_ hJ hF K hK
   obtain rfl : k_ = 0 := by omega
   clear hF
   go_simp
   exact hK.out _ _ (Below.refl _ _) (rfl) trivial
  refine AK.sc (lim := 0) (lo := 0) rfl rfl rfl rfl ?_ ?_
  ·intro k_ u w_ hk_ hl_ hJ hF K hK
   obtain rfl : k_ = 0 := by omega
   have h11 : u 11 = .pointer (some ⟨s0, 0, none⟩) := AK.facts_get hF 11 (by simp)
   clear hF
   simp only [h11] at hK ⊢
   clear h11
   have c_ := hJ.1.at 0 _ rfl
   go_simp
   exact hK.out _ _ (Below.refl _ _) (rfl) trivial
  refine AK.sc (lim := 0) (lo := 0) rfl rfl rfl rfl ?_ ?_
  ·intro k_ u w_ hk_ hl_ hJ hF K hK
   obtain rfl : k_ = 0 := by omega
   clear hF
   go_simp
   exact hK.out _ _ (Below.refl _ _) (rfl) trivial
  refine AK.sc (lim := 0) (lo := 0) rfl rfl rfl rfl ?_ ?_
  ·intro k_ u w_ hk_ hl_ hJ hF K hK
   obtain rfl : k_ = 0 := by omega
   have h13 : u 13 = .pointer (some ⟨s0, 5, none⟩) := AK.facts_get hF 13 (by simp)
   clear hF
   simp only [h13] at hK ⊢
   clear h13
   have c_ := hJ.1.at 5 _ rfl
   go_simp
   exact hK.out _ _ (Below.refl _ _) (rfl) trivial
  refine AK.sc (lim := 0) (lo := 0) rfl rfl rfl rfl ?_ ?_
  ·intro k_ u w_ hk_ hl_ hJ hF K hK
   obtain rfl : k_ = 0 := by omega
   clear hF
   go_simp
   exact hK.out _ _ (Below.refl _ _) (rfl) trivial
  refine AK.sc (lim := 0) (lo := 0) rfl rfl rfl rfl ?_ ?_
  ·intro k_ u w_ hk_ hl_ hJ hF K hK
   obtain rfl : k_ = 0 := by omega
   have h15 : u 15 = .pointer (some ⟨s0, 6, none⟩) := AK.facts_get hF 15 (by simp)
   clear hF
   simp only [h15] at hK ⊢
   clear h15
   have c_ := hJ.1.at 6 _ rfl
   go_simp
   exact hK.out _ _ (Below.refl _ _) (rfl) trivial
  refine AK.sc (lim := 0) (lo := 0) rfl rfl rfl rfl ?_ ?_
  ·intro k_ u w_ hk_ hl_ hJ hF K hK
   obtain rfl : k_ = 0 := by omega
   have h16 : u 16 = .slice x.A x.n x.c := AK.facts_get hF 16 (by simp)
   clear hF
   simp only [h16] at hK ⊢
   clear h16
   have HX9 := HX2.out.hz.up hJ.2.2
   go_simp
   refine (HNG.out w_ HX9).mono ?_
   rintro e w6 ⟨⟨v, rfl, hOw⟩, hb6⟩
   exact hK.out _ _ hb6 (rvP_mk hOw HXN.out hJ.2.2.size HS2.out) trivial
  refine AK.sc (lim := 0) (lo := 0) rfl rfl rfl rfl ?_ ?_
  ·intro k_ u w_ hk_ hl_ hJ hF K hK
   obtain rfl : k_ = 0 := by omega
   have h7 : u 7 = .int .i64 a := AK.facts_get hF 7 (by simp)
   have h9 : u 9 = .int .i64 x.ent := AK.facts_get hF 9 (by simp)
   have h10 : u 10 = .int .i64 b := AK.facts_get hF 10 (by simp)
   have h12 : u 12 = .int .i64 x.id := AK.facts_get hF 12 (by simp)
   have h14 : u 14 = .string x.txt := AK.facts_get hF 14 (by simp)
   have h17 : rvP s0 x X (u 17) w_ := AK.facts_get hF 17 (by simp)
   clear hF
   obtain ⟨v17, A17, c17, e17, hv17, ho17⟩ : ∃ v A c, u 17 = v ∧ v = .slice A x.n c ∧ OwnRv s0 X v w_ := by obtain ⟨A, c, h1, h2⟩ := h17; exact ⟨_, A, c, rfl, h1, h2⟩
   rw [hv17] at e17
   subst hv17
   clear h17
   have h17 := e17
   clear e17
   simp only [h7, h9, h10, h12, h14, h17] at hK ⊢
   clear h7 h9 h10 h12 h14 h17
   refine wp_build_is 32 _ rfl [(0, .int .i64 a), (1, .int .i64 x.ent), (2, .int .i64 b), (3, .int .i64 3), (4, .int .i64 x.id), (5, .string x.txt), (6, .slice A17 x.n c17)] rfl (etyV (revE x a b A17 c17)) (rv_build x a b A17 c17 _) ?_
   exact hK.out _ _ (Below.refl _ _) ⟨_, _, rfl, ho17⟩ trivial
  refine AK.ss rfl rfl ?_ ?_
  ·intro u w_ hJ hA_ hF K hK
   have h18 : rvQ s0 x X a b (u 18) w_ := AK.facts_get hF 18 (by simp)
   clear hF
   obtain ⟨v18, A18, c18, e18, hv18, ho18⟩ : ∃ v A c, u 18 = v ∧ v = etyV (revE x a b A c) ∧ OwnRv s0 X (.slice A x.n c) w_ := by obtain ⟨A, c, h1, h2⟩ := h18; exact ⟨_, A, c, rfl, h1, h2⟩
   clear h18
   have h18 := e18
   clear e18
   simp only [h18] at hK ⊢
   clear h18
   refine wp_store_mid 32 _ _ rfl (s0 + 1) 0 (etyC (revE x a b A18 c18)).toArray rfl hv18 (hJ.2.1.there (show 0 + 7 ≤ 7 from Nat.le_refl _)) (by kernel_rfl) (by kernel_rfl) ?_
   exact hK.out _ _ ⟨A18, c18, hJ.2.1.put _ rfl, ho18.set _, Below.trans (HB2.out.trans (hJ.2.2.mono HB2.out.size)) (below_setCells (by have := HS0.out; omega) _ _ (Below.refl _ _))⟩ (Only.setCells (by rfl) _ _ _) trivial
  exact AK.StepsOk.nil
 ·intro u W9 hJ9 hF
  clear hF
  obtain ⟨A9, c9, hr9, ho9, hb9⟩ := hJ9
  go_wp2_with fail
  exact bodyPost_ret (v := etyV (revE x a b A9 c9)) (results_cell_mid Tryz.results12 _ _ (s0 + 1) (etyC (revE x a b A9 c9)) _ rfl hr9.range Tryz.underlying32 rfl (by kernel_rfl)) rfl ⟨⟨A9, c9, rfl, by rw [List.length_map]; exact HXN.out, by obtain ⟨B9, -, h9⟩ := ho9; obtain ⟨A8, c8, e8, h8⟩ := h9.reads; injection e8 with e8 _ _; rw [show (revE x a b A9 c9).A = A9 from rfl, e8]; exact h8, HOK.out⟩, hb9⟩
abbrev SizeUp (w w' : World) : Prop := w.heap.size ≤ w'.heap.size
def rlR (X : List Lnk) : Nat → List Lnk
 | 2 => X
 | 3 => X ++ X.map negL
 | _ => []
def rlJ (wr : World) (X : List Lnk) (k : Nat) (l : List Value) (W : World) : Prop := Below wr.heap.size wr W ∧ ∀ v, l = [v] → OwnL 66 W wr.heap.size v (rlR X k)
theorem rlJ.mk {wr : World} {X : List Lnk} {k : Nat} {l : List Value} {v : Value} {W : World} (hB : Below wr.heap.size wr W) (hl : l = [v]) (hO : OwnL 66 W wr.heap.size v (rlR X k)) : rlJ wr X k l W :=
 ⟨hB, fun v' h => by rw [hl] at h; cases h; exact hO⟩
theorem rlJ.st (wr : World) (X : List Lnk) (k : Nat) (l : List Value) (W W' : World) (hb : Below W.heap.size W W') (h : rlJ wr X k l W) : rlJ wr X k l W' :=
 ⟨h.1.trans (hb.mono h.1.size), fun v hv => (h.2 v hv).up hb⟩
def rlF : AK.Fact SizeUp := ⟨fun v _ => ∃ A c, v = .slice A 0 c, fun _ _ _ _ h => h⟩
def rlFa (GV : Value) (x : Ety) (A4 : Option Addr) (c4 : Nat) (a b : Int) (s0 g7 : Nat) (rc : Int) : List (Nat × AK.Fact (SizeUp)) := [(44, AK.Fact.is (GV)), (45, AK.Fact.is (etyV (revE x a b A4 c4))), (46, AK.Fact.is (.int .i64 rc)), (47, AK.Fact.is (.int .i64 rc)), (48, AK.Fact.is (.bool true)), (49, AK.Fact.is (.bool true)), (50, AK.Fact.is (.pointer (some ⟨g7, 6, none⟩))), (51, AK.Fact.is (.slice A4 x.n c4)), (52, AK.Fact.is (.pointer (some ⟨s0 + 1, 6, none⟩))), (53, AK.Fact.is (.slice x.A x.n x.c)), (54, AK.Fact.is (.bool true)), (55, AK.Fact.is (.bool true)), (56, AK.Fact.is (.bool true)), (57, AK.Fact.triv), (58, AK.Fact.is (.pointer (some ⟨s0 + 1, 6, none⟩))), (59, AK.Fact.is (.slice x.A x.n x.c)), (60, AK.Fact.triv), (61, AK.Fact.is (.pointer (some ⟨g7, 6, none⟩))), (62, AK.Fact.is (.slice A4 x.n c4)), (63, AK.Fact.triv), (64, rlF), (65, AK.Fact.is (.int .i64 0)), (66, AK.Fact.is (.bool true)), (67, AK.Fact.is (.bool true)), (6, AK.Fact.is (.bool true))]
set_option maxRecDepth 100000 in
set_option maxHeartbeats 12800000 in
theorem law_erev (g : Grp) (L : List Acc) (G : List Ent) (x : Ety) (X : List Lnk) (a b : Int) (w : World) (hk : GrK w g L G) (hw : GrW g L G) (hmx : g.m ≤ 9223372036854775807) (hx : EtyK w x X) (hxm : x.n ≤ 9223372036854775807) (_ht : x.txt.size ≤ maxLen) : Calls Tryz.prog 3 #[grpV g, etyV x, .agg #[.int .i64 a, .int .i64 b]] w fun e w' => e = .returned (.bool true) ∧ Below w.heap.size w w' := by
 obtain ⟨GV, hGV⟩ : ∃ GV, GV = grpV g := ⟨_, rfl⟩
 obtain ⟨XV, hXV⟩ : ∃ XV, XV = etyV x := ⟨_, rfl⟩
 have HFW := Lib.hid (fun W h h9 => rfew11_any g x X L G W h hmx h9)
 have HSM := Lib.hid (fun W h => esmall_any x.A x.c X W h (by rw [hx.ln]; exact hxm))
 rw [hx.ln] at HSM
 have hC1 := fun (hs : Sm g G) (hn : x.n ≤ 1000) W (h : GrK W g L G) (h9 : EtyK W x X) => gcheck_any g x X L G W h hs hw h9 hn
 have hC2 := fun (hs : Sm g G) (hn : x.n ≤ 1000) A c W (h : GrK W g L G) (h9 : EtyK W (revE x a b A c) (X.map negL)) => gcheck_any g (revE x a b A c) (X.map negL) L G W h hs hw h9 hn
 have hRV := fun (hn : x.n ≤ 1000) W (h9 : EtyK W x X) => erev_any x X a b W h9 hn
 have hQ1 := fun h0 A c (ha : 1 ≤ a) => chk_rev (g := g) (x := x) (X := X) (L := L) (G := G) (a := a) h0 b A c ha
 have hQ2 := chk_amt (g := g) (x := x) (X := X) (L := L) (G := G)
 have hIC := fun (h0 : chkN g x X L G = 0) W => rincal_any g.cy g.cm g.cp b W (by have := clV_iff.1 (grpP_cl (chk_parts h0).1); omega)
 generalize chkN g x X L G = cc at *
 generalize inB g.cy g.cm g.cp b = ib at *
 have hf9 : few11 g G x = true → Sm g G ∧ x.n ≤ 1000 := fun h => by
  unfold few11 at h
  simp only [Bool.and_eq_true, decide_eq_true_eq] at h
  exact ⟨few_sm h.1, by omega⟩
 rw [← hGV, ← hXV] at HFW
 simp only [← hGV, ← hXV] at hC1 hC2 hRV
 have HXN := Lib.hid hx.ln
 have HOK := Lib.hid hx.ok
 rw [grpV_is]
 obtain ⟨gs, hgs⟩ : ∃ gs, (grpC g).toArray = gs := ⟨_, rfl⟩
 obtain ⟨xs, hxs⟩ : ∃ xs, (etyC x).toArray = xs := ⟨_, rfl⟩
 have hxV : etyV x = .agg xs := by rw [etyV_is, hxs]
 rw [hgs, hxV]
 obtain ⟨s0, hs0⟩ : ∃ s0, w.heap.size = s0 := ⟨_, rfl⟩
 obtain ⟨w2, hw2⟩ : ∃ w2, ((w.alloc (.cells gs 29)).alloc (.cells xs 32)).alloc (.cells #[.int .i64 a, .int .i64 b] 33) = w2 := ⟨_, rfl⟩
 have HGB : Hid (Rg w2 s0 (grpC g)) := Lib.hid (by rw [← hw2, ← hgs, ← hs0]; exact ((rg_new w _ _).up (below_alloc_new _)).up (below_alloc_new _))
 have HXB : Hid (Rg w2 (s0 + 1) (etyC x)) := Lib.hid (by
  rw [← hw2, ← hxs, ← hs0]
  have h9 := (rg_new (w.alloc (.cells gs 29)) 32 (etyC x)).up (below_alloc_new (.cells #[.int .i64 a, .int .i64 b] 33))
  rw [World.size_alloc] at h9
  exact h9)
 have HAB : Hid (Wh 33 w2 (s0 + 2) [.int .i64 a, .int .i64 b]) := Lib.hid (by
  rw [← hw2, ← hs0]
  have h9 := Wh.new ((w.alloc (.cells gs 29)).alloc (.cells xs 32)) 33 [.int .i64 a, .int .i64 b]
  rw [World.size_alloc, World.size_alloc] at h9
  exact h9)
 have HB2 : Hid (Below w.heap.size w w2) := Lib.hid (by rw [← hw2]; exact below_new (below_new (below_alloc_new _) _) _)
 have HLG : Hid (∀ w9, Below w2.heap.size w2 w9 → (Instr.loadAt 29 (.pointer (some ⟨s0, 0, none⟩))).run Tryz.prog w9 = .ok GV w9) := Lib.hid (fun w9 h9 => by rw [hGV, grpV_is]; exact (HGB.out.up h9).load 0 29 (grpC g) rfl _ Tryz.underlying29 rfl (by kernel_rfl))
 have HLX : Hid (∀ w9, Below w2.heap.size w2 w9 → (Instr.loadAt 32 (.pointer (some ⟨s0 + 1, 0, none⟩))).run Tryz.prog w9 = .ok XV w9) := Lib.hid (fun w9 h9 => by rw [hXV, etyV_is]; exact (HXB.out.up h9).load 0 32 (etyC x) rfl _ Tryz.underlying32 rfl (by kernel_rfl))
 have HLC : Hid (∀ w9, Below w2.heap.size w2 w9 → (Instr.loadAt 23 (.pointer (some ⟨s0, 1, none⟩))).run Tryz.prog w9 = .ok (calV g.cy g.cm g.cp) w9) := Lib.hid (fun w9 h9 => (HGB.out.up h9).load 1 23 [.int .i64 g.cy, .int .i64 g.cm, .int .i64 g.cp] rfl _ Tryz.underlying23 rfl (by kernel_rfl))
 have HK2 := Lib.hid (hk.up HB2.out)
 have HX2 := Lib.hid (hx.up HB2.out)
 have HBC := Lib.hid (Below.refl w2.heap.size w2)
 have HGV := Lib.hid hGV
 clear hk hx hGV hgs hxs hxV hmx hxm hw _ht
 have HS0 := Lib.hid hs0
 generalize few11 g G x = fb at *
 have hsy := smLB_len (L := X)
 generalize smLB X = sb at *
 cases fb
 ·clear hC1 hC2 hf9 hRV hQ1 hQ2 hsy hXV hIC
  have HM1 : True := trivial
  have HM2 : True := trivial
  go_enter Tryz.func3, Tryz.ntmps3
  go_wp2_with (first
   | (clear HM1; refine wpList_load_is rfl 29 _ rfl (.pointer (some ⟨s0, 0, none⟩)) rfl GV (HLG.out _ HBC.out) ?_)
   | (clear HM2; refine wpList_load_is rfl 32 _ rfl (.pointer (some ⟨s0 + 1, 0, none⟩)) rfl XV (HLX.out _ HBC.out) ?_)
   | (go_at_call 8; refine (eawake_any _).mono ?_; rintro e w3 ⟨rfl, hb⟩; have hB3 := Lib.hid (HBC.out.trans (hb.mono HBC.out.size)); clear hb HBC; have HBC := hB3; clear hB3)
   | (go_at_call 9; refine (HFW.out _ (HK2.out.up HBC.out) (HX2.out.up HBC.out)).mono ?_; rintro e w4 ⟨rfl, hb⟩; have hB3 := Lib.hid (HBC.out.trans (hb.mono HBC.out.size)); clear hb HBC; have HBC := hB3; clear hB3; have d6 := (HXB.out.up HBC.out).cell 6 _ rfl; have q0 := (HAB.out.up HBC.out).at 0 _ rfl; have q1 := (HAB.out.up HBC.out).at 1 _ rfl)
   | (go_at_call 10; refine (HSM.out _ (HX2.out.hz.up HBC.out)).mono ?_; rintro e w5 ⟨rfl, hb⟩; have hB3 := Lib.hid (HBC.out.trans (hb.mono HBC.out.size)); clear hb HBC; have HBC := hB3; clear hB3; clear d6 q0 q1; have d6 := (HXB.out.up HBC.out).cell 6 _ rfl; have q0 := (HAB.out.up HBC.out).at 0 _ rfl; have q1 := (HAB.out.up HBC.out).at 1 _ rfl))
  go_ret
  exact ⟨by first | rfl | simp, (by have h9 := HB2.out.trans (HBC.out.mono HB2.out.size); first | exact h9 | (rw [← HS0.out]; exact h9))⟩
 obtain ⟨hs, hn⟩ := hf9 rfl
 have HC1 := Lib.hid (hC1 hs hn)
 have HC2 := Lib.hid (hC2 hs hn)
 have HRV := Lib.hid (hRV hn)
 have HN := Lib.hid hn
 clear hC1 hC2 hf9 hs hn hRV hXV
 cases sb
 ·clear hQ1 hQ2 hsy hIC
  have HM1 : True := trivial
  have HM2 : True := trivial
  go_enter Tryz.func3, Tryz.ntmps3
  go_wp2_with (first
   | (clear HM1; refine wpList_load_is rfl 29 _ rfl (.pointer (some ⟨s0, 0, none⟩)) rfl GV (HLG.out _ HBC.out) ?_)
   | (clear HM2; refine wpList_load_is rfl 32 _ rfl (.pointer (some ⟨s0 + 1, 0, none⟩)) rfl XV (HLX.out _ HBC.out) ?_)
   | (go_at_call 8; refine (eawake_any _).mono ?_; rintro e w3 ⟨rfl, hb⟩; have hB3 := Lib.hid (HBC.out.trans (hb.mono HBC.out.size)); clear hb HBC; have HBC := hB3; clear hB3)
   | (go_at_call 9; refine (HFW.out _ (HK2.out.up HBC.out) (HX2.out.up HBC.out)).mono ?_; rintro e w4 ⟨rfl, hb⟩; have hB3 := Lib.hid (HBC.out.trans (hb.mono HBC.out.size)); clear hb HBC; have HBC := hB3; clear hB3; have d6 := (HXB.out.up HBC.out).cell 6 _ rfl; have q0 := (HAB.out.up HBC.out).at 0 _ rfl; have q1 := (HAB.out.up HBC.out).at 1 _ rfl)
   | (go_at_call 10; refine (HSM.out _ (HX2.out.hz.up HBC.out)).mono ?_; rintro e w5 ⟨rfl, hb⟩; have hB3 := Lib.hid (HBC.out.trans (hb.mono HBC.out.size)); clear hb HBC; have HBC := hB3; clear hB3; clear d6 q0 q1; have d6 := (HXB.out.up HBC.out).cell 6 _ rfl; have q0 := (HAB.out.up HBC.out).at 0 _ rfl; have q1 := (HAB.out.up HBC.out).at 1 _ rfl))
  go_ret
  exact ⟨by first | rfl | simp, (by have h9 := HB2.out.trans (HBC.out.mono HB2.out.size); first | exact h9 | (rw [← HS0.out]; exact h9))⟩
 by_cases hc0 : cc = 0
 case neg =>
  have e0 : (cc != 0) = true := by simp [hc0]
  clear hQ1 hQ2 hsy hc0 hIC
  have HM1 : True := trivial
  have HM2 : True := trivial
  have HM3 : True := trivial
  have HM4 : True := trivial
  go_enter Tryz.func3, Tryz.ntmps3
  go_wp2_with (first
   | (clear HM1; refine wpList_load_is rfl 29 _ rfl (.pointer (some ⟨s0, 0, none⟩)) rfl GV (HLG.out _ HBC.out) ?_)
   | (clear HM2; refine wpList_load_is rfl 32 _ rfl (.pointer (some ⟨s0 + 1, 0, none⟩)) rfl XV (HLX.out _ HBC.out) ?_)
   | (clear HM3; refine wpList_load_if (by rfl) 29 _ rfl (.pointer (some ⟨s0, 0, none⟩)) rfl GV (HLG.out _ HBC.out) ?_)
   | (clear HM4; refine wpList_load_if (by rfl) 32 _ rfl (.pointer (some ⟨s0 + 1, 0, none⟩)) rfl XV (HLX.out _ HBC.out) ?_)
   | (go_at_call 8; refine (eawake_any _).mono ?_; rintro e w3 ⟨rfl, hb⟩; have hB3 := Lib.hid (HBC.out.trans (hb.mono HBC.out.size)); clear hb HBC; have HBC := hB3; clear hB3)
   | (go_at_call 9; refine (HFW.out _ (HK2.out.up HBC.out) (HX2.out.up HBC.out)).mono ?_; rintro e w4 ⟨rfl, hb⟩; have hB3 := Lib.hid (HBC.out.trans (hb.mono HBC.out.size)); clear hb HBC; have HBC := hB3; clear hB3; have d6 := (HXB.out.up HBC.out).cell 6 _ rfl; have q0 := (HAB.out.up HBC.out).at 0 _ rfl; have q1 := (HAB.out.up HBC.out).at 1 _ rfl)
   | (go_at_call 10; refine (HSM.out _ (HX2.out.hz.up HBC.out)).mono ?_; rintro e w5 ⟨rfl, hb⟩; have hB3 := Lib.hid (HBC.out.trans (hb.mono HBC.out.size)); clear hb HBC; have HBC := hB3; clear hB3; clear d6 q0 q1; have d6 := (HXB.out.up HBC.out).cell 6 _ rfl; have q0 := (HAB.out.up HBC.out).at 0 _ rfl; have q1 := (HAB.out.up HBC.out).at 1 _ rfl)
   | (go_at_call 11; refine (HC1.out _ (HK2.out.up HBC.out) (HX2.out.up HBC.out)).mono ?_; rintro e w6 ⟨rfl, hb⟩; have hB3 := Lib.hid (HBC.out.trans (hb.mono HBC.out.size)); clear hb HBC; have HBC := hB3; clear hB3; clear d6 q0 q1; have d6 := (HXB.out.up HBC.out).cell 6 _ rfl; have q0 := (HAB.out.up HBC.out).at 0 _ rfl; have q1 := (HAB.out.up HBC.out).at 1 _ rfl))
  go_ret
  exact ⟨by first | rfl | simp, (by have h9 := HB2.out.trans (HBC.out.mono HB2.out.size); first | exact h9 | (rw [← HS0.out]; exact h9))⟩
 by_cases ha : a < 1
 case pos =>
  have e0 : (cc != 0) = false := by simp [hc0]
  have e1 : decide (a < 1) = true := decide_eq_true ha
  clear hQ1 hQ2 hsy hc0 ha hIC
  have HM1 : True := trivial
  have HM2 : True := trivial
  have HM3 : True := trivial
  have HM4 : True := trivial
  go_enter Tryz.func3, Tryz.ntmps3
  go_wp2_with (first
   | (clear HM1; refine wpList_load_is rfl 29 _ rfl (.pointer (some ⟨s0, 0, none⟩)) rfl GV (HLG.out _ HBC.out) ?_)
   | (clear HM2; refine wpList_load_is rfl 32 _ rfl (.pointer (some ⟨s0 + 1, 0, none⟩)) rfl XV (HLX.out _ HBC.out) ?_)
   | (clear HM3; refine wpList_load_if (by rfl) 29 _ rfl (.pointer (some ⟨s0, 0, none⟩)) rfl GV (HLG.out _ HBC.out) ?_)
   | (clear HM4; refine wpList_load_if (by rfl) 32 _ rfl (.pointer (some ⟨s0 + 1, 0, none⟩)) rfl XV (HLX.out _ HBC.out) ?_)
   | (go_at_call 8; refine (eawake_any _).mono ?_; rintro e w3 ⟨rfl, hb⟩; have hB3 := Lib.hid (HBC.out.trans (hb.mono HBC.out.size)); clear hb HBC; have HBC := hB3; clear hB3)
   | (go_at_call 9; refine (HFW.out _ (HK2.out.up HBC.out) (HX2.out.up HBC.out)).mono ?_; rintro e w4 ⟨rfl, hb⟩; have hB3 := Lib.hid (HBC.out.trans (hb.mono HBC.out.size)); clear hb HBC; have HBC := hB3; clear hB3; have d6 := (HXB.out.up HBC.out).cell 6 _ rfl; have q0 := (HAB.out.up HBC.out).at 0 _ rfl; have q1 := (HAB.out.up HBC.out).at 1 _ rfl)
   | (go_at_call 10; refine (HSM.out _ (HX2.out.hz.up HBC.out)).mono ?_; rintro e w5 ⟨rfl, hb⟩; have hB3 := Lib.hid (HBC.out.trans (hb.mono HBC.out.size)); clear hb HBC; have HBC := hB3; clear hB3; clear d6 q0 q1; have d6 := (HXB.out.up HBC.out).cell 6 _ rfl; have q0 := (HAB.out.up HBC.out).at 0 _ rfl; have q1 := (HAB.out.up HBC.out).at 1 _ rfl)
   | (go_at_call 11; refine (HC1.out _ (HK2.out.up HBC.out) (HX2.out.up HBC.out)).mono ?_; rintro e w6 ⟨rfl, hb⟩; have hB3 := Lib.hid (HBC.out.trans (hb.mono HBC.out.size)); clear hb HBC; have HBC := hB3; clear hB3; clear d6 q0 q1; have d6 := (HXB.out.up HBC.out).cell 6 _ rfl; have q0 := (HAB.out.up HBC.out).at 0 _ rfl; have q1 := (HAB.out.up HBC.out).at 1 _ rfl))
  go_ret
  exact ⟨by first | rfl | simp, (by have h9 := HB2.out.trans (HBC.out.mono HB2.out.size); first | exact h9 | (rw [← HS0.out]; exact h9))⟩
 have e0 : (cc != 0) = false := by simp [hc0]
 have e1 : decide (a < 1) = false := decide_eq_false ha
 have HIC := Lib.hid (hIC hc0)
 have HQ1 := Lib.hid (fun A c => hQ1 hc0 A c (by omega))
 have hQ := hQ2 hc0
 have HNO := Lib.hid (fun N (h : IsNrm (X ++ X.map negL) N) => rev_none hQ h)
 have HNM := Lib.hid (fun W A c (h : LnkAt W A (X ++ X.map negL)) => enorm_any A c (X ++ X.map negL) W h (by have := hsy rfl; simp; omega) (fun l hl => by
  rcases List.mem_append.1 hl with h2 | h2
  ·exact (HOK.out l h2).1
  ·exact (okL_neg HOK.out l h2).1))
 have HOP := Lib.hid (fun A c W (h : LnkAt W A (X.map negL)) (h2 : LnkAt W x.A X) => eopp_any A x.A c x.c (X.map negL) X W h h2 (by have := hsy rfl; simp; omega) (by have := hsy rfl; omega))
 simp only [opp_self, List.length_map, HXN.out] at HOP
 simp only [HQ1.out] at HC2
 obtain ⟨i0, hi, hz1, hz2, hz3⟩ := info_parts infoLn
 clear hQ1 hQ2 hQ hsy hc0 ha HQ1 hIC
 cases ib
 ·have HM1 : True := trivial
  have HM2 : True := trivial
  have HM3 : True := trivial
  have HM4 : True := trivial
  have HM5 : True := trivial
  have HM6 : True := trivial
  have HM7 : True := trivial
  rw [show (if (false : Bool) = true then (0 : Int) else 2) = 2 from rfl] at HC2
  go_enter Tryz.func3, Tryz.ntmps3
  go_wp2_with (first
   | (clear HM1; refine wpList_load_is rfl 29 _ rfl (.pointer (some ⟨s0, 0, none⟩)) rfl GV (HLG.out _ HBC.out) ?_)
   | (clear HM2; refine wpList_load_is rfl 32 _ rfl (.pointer (some ⟨s0 + 1, 0, none⟩)) rfl XV (HLX.out _ HBC.out) ?_)
   | (clear HM3; refine wpList_load_if (by rfl) 29 _ rfl (.pointer (some ⟨s0, 0, none⟩)) rfl GV (HLG.out _ HBC.out) ?_)
   | (clear HM4; refine wpList_load_if (by rfl) 32 _ rfl (.pointer (some ⟨s0 + 1, 0, none⟩)) rfl XV (HLX.out _ HBC.out) ?_)
   | (go_at_call 8; refine (eawake_any _).mono ?_; rintro e w3 ⟨rfl, hb⟩; have hB3 := Lib.hid (HBC.out.trans (hb.mono HBC.out.size)); clear hb HBC; have HBC := hB3; clear hB3)
   | (go_at_call 9; refine (HFW.out _ (HK2.out.up HBC.out) (HX2.out.up HBC.out)).mono ?_; rintro e w4 ⟨rfl, hb⟩; have hB3 := Lib.hid (HBC.out.trans (hb.mono HBC.out.size)); clear hb HBC; have HBC := hB3; clear hB3; have d6 := (HXB.out.up HBC.out).cell 6 _ rfl; have q0 := (HAB.out.up HBC.out).at 0 _ rfl; have q1 := (HAB.out.up HBC.out).at 1 _ rfl)
   | (go_at_call 10; refine (HSM.out _ (HX2.out.hz.up HBC.out)).mono ?_; rintro e w5 ⟨rfl, hb⟩; have hB3 := Lib.hid (HBC.out.trans (hb.mono HBC.out.size)); clear hb HBC; have HBC := hB3; clear hB3; clear d6 q0 q1; have d6 := (HXB.out.up HBC.out).cell 6 _ rfl; have q0 := (HAB.out.up HBC.out).at 0 _ rfl; have q1 := (HAB.out.up HBC.out).at 1 _ rfl)
   | (go_at_call 11; refine (HC1.out _ (HK2.out.up HBC.out) (HX2.out.up HBC.out)).mono ?_; rintro e w6 ⟨rfl, hb⟩; have hB3 := Lib.hid (HBC.out.trans (hb.mono HBC.out.size)); clear hb HBC; have HBC := hB3; clear hB3; clear d6 q0 q1; have d6 := (HXB.out.up HBC.out).cell 6 _ rfl; have q0 := (HAB.out.up HBC.out).at 0 _ rfl; have q1 := (HAB.out.up HBC.out).at 1 _ rfl)
   | (clear HM5; refine wpList_load_is rfl 32 _ rfl (.pointer (some ⟨s0 + 1, 0, none⟩)) rfl XV (HLX.out _ HBC.out) ?_)
   | (go_at_call 12; refine (HRV.out _ (HX2.out.up HBC.out)).mono ?_; rintro e w7 ⟨⟨A4, c4, rfl, hr4⟩, hb⟩; have hB3 := Lib.hid (HBC.out.trans (hb.mono HBC.out.size)); clear hb HBC; have HBC := hB3; clear hB3; clear d6 q0 q1; have HR4 := Lib.hid hr4; clear hr4; obtain ⟨g7, hg7⟩ : ∃ g7, w7.heap.size = g7 := ⟨_, rfl⟩; have HG7 := Lib.hid hg7; have HBA := Lib.hid (below_new HBC.out (.cells (#[.int .i64 0, .int .i64 0, .int .i64 0, .int .i64 0, .int .i64 0, .string ⟨#[]⟩, .slice none 0 0] : Array Value) 32)))
   | (clear HM6; refine wpList_store_wh rfl 32 _ _ rfl g7 rfl 32 [.int .i64 0, .int .i64 0, .int .i64 0, .int .i64 0, .int .i64 0, .string ⟨#[]⟩, .slice none 0 0] (etyC (revE x a b A4 c4)) rfl (by rw [← HG7.out]; exact Wh.new w7 32 [.int .i64 0, .int .i64 0, .int .i64 0, .int .i64 0, .int .i64 0, .string ⟨#[]⟩, .slice none 0 0]) rfl (by kernel_rfl) (by kernel_rfl) ?_; intro w8 hr8 ho8 hz8; have hB8 := Lib.hid (HBC.out.trans ((only_new (by rw [HG7.out]; exact ho8.out)).mono HBC.out.size)); have HR8 := Lib.hid hr8.out; have HRX := Lib.hid (HR4.out.up (only_new (by rw [HG7.out]; exact ho8.out))); clear hr8 ho8 hz8 hg7 HBC HBA; have HBC := hB8; clear hB8; have d6 := (HXB.out.up HBC.out).cell 6 _ rfl; have q0 := (HAB.out.up HBC.out).at 0 _ rfl; have q1 := (HAB.out.up HBC.out).at 1 _ rfl)
   | (clear HM7; refine wpList_load_is rfl 23 _ rfl (.pointer (some ⟨s0, 1, none⟩)) rfl (calV g.cy g.cm g.cp) (HLC.out _ HBC.out) ?_)
   | (go_at_call 13; refine (HIC.out _).mono ?_; rintro e wr ⟨rfl, hb⟩; have HBR := Lib.hid hb; have hB3 := Lib.hid (HBC.out.trans (hb.mono HBC.out.size)); clear hb HBC; have HBC := hB3; clear hB3; clear d6 q0 q1))
  have HLR : Hid (∀ w9, Below wr.heap.size wr w9 → (Instr.loadAt 32 (.pointer (some ⟨g7, 0, none⟩))).run Tryz.prog w9 = .ok (etyV (revE x a b A4 c4)) w9) := Lib.hid (fun w9 h9 => by rw [etyV_is]; exact (((HR8.out.up HBR.out).up h9).rg).load 0 32 (etyC (revE x a b A4 c4)) rfl _ Tryz.underlying32 rfl (by kernel_rfl))
  have HR9 := Lib.hid (HR8.out.up HBR.out)
  have HRX9 := Lib.hid (HRX.out.up HBR.out)
  clear HR8 HRX
  have HR8 := HR9
  have HRX := HRX9
  clear HR9 HRX9
  refine AK.region_facts (Rp := Below0) (Kp := SizeUp) (rlFa GV x A4 c4 a b s0 g7 2) (rlJ wr X) [[], [], [44, 45], [], [46, 47], [48], [49], [50, 49], [49], [52, 49], [51, 53, 49], [49, 54], [55], [56], [56], [58, 56], [57, 59, 56], [56], [61, 56], [60, 62, 56], [63, 56], [64, 56], [65, 56], [56, 66], [67]] [13, 16, 19] [[], [57], [60], [63]] [3, 3, 3, 3, 3, 3, 3, 3, 3, 3, 3, 3, 3, 3, 3, 3, 3, 3, 3, 3, 3, 3, 3, 3, 3] [0, 0, 0, 0, 0, 0, 0, 0, 0, 0, 0, 0, 0, 0, 0, 0, 0, 0, 0, 0, 3, 0, 0, 0, 0] [] (fun u => by simp only [rlFa, AK.temps, List.map_cons, List.map_nil, fillL, List.setIfInBounds_toArray, List.set_cons_zero, List.set_cons_succ]; rfl) (by kernel_rfl) (by kernel_rfl) (fun _ _ h => h) (fun _ _ h => h.size) (rlJ.st wr X) (⟨dc_drew (Below.refl _ _), fun v h => by cases h⟩) ?_ ?_
  ·refine AK.sc (lim := 3) (lo := 0) rfl rfl rfl rfl ?_ ?_
   ·intro k_ u w_ hk_ hl_ hJ hF K hK
    clear hF
    have hW9 := HBC.out.trans (hJ.1.mono HBC.out.size)
    refine wp_load_is 29 _ rfl (.pointer (some ⟨s0, 0, none⟩)) rfl GV (HLG.out _ hW9) ?_
    exact hK.out _ _ (Below.refl _ _) (rfl) trivial
   refine AK.sc (lim := 3) (lo := 0) rfl rfl rfl rfl ?_ ?_
   ·intro k_ u w_ hk_ hl_ hJ hF K hK
    clear hF
    have hW8 := hJ.1
    refine wp_load_is 32 _ rfl (.pointer (some ⟨g7, 0, none⟩)) rfl (etyV (revE x a b A4 c4)) (HLR.out _ hW8) ?_
    exact hK.out _ _ (Below.refl _ _) (rfl) trivial
   refine AK.sc (lim := 3) (lo := 0) rfl rfl rfl rfl ?_ ?_
   ·intro k_ u w_ hk_ hl_ hJ hF K hK
    have h44 : u 44 = GV := AK.facts_get hF 44 (by simp)
    have h45 : u 45 = etyV (revE x a b A4 c4) := AK.facts_get hF 45 (by simp)
    clear hF
    simp only [h44, h45] at hK ⊢
    clear h44 h45
    have hW9 := HBC.out.trans (hJ.1.mono HBC.out.size)
    have hk9 := HK2.out.up hW9
    have hx9 := HRX.out.up hJ.1
    go_simp
    refine (HC2.out _ _ _ hk9 hx9).mono ?_
    rintro e w3 ⟨rfl, hb⟩
    exact hK.out _ _ hb (rfl) trivial
   refine AK.sc (lim := 3) (lo := 0) rfl rfl rfl rfl ?_ ?_
   ·intro k_ u w_ hk_ hl_ hJ hF K hK
    clear hF
    go_simp
    exact hK.out _ _ (Below.refl _ _) (rfl) trivial
   refine AK.sc (lim := 3) (lo := 0) rfl rfl rfl rfl ?_ ?_
   ·intro k_ u w_ hk_ hl_ hJ hF K hK
    have h46 : u 46 = .int .i64 2 := AK.facts_get hF 46 (by simp)
    have h47 : u 47 = .int .i64 2 := AK.facts_get hF 47 (by simp)
    clear hF
    simp only [h46, h47] at hK ⊢
    clear h46 h47
    go_simp
    exact hK.out _ _ (Below.refl _ _) (rfl) trivial
   refine AK.sc (lim := 3) (lo := 0) rfl rfl rfl rfl ?_ ?_
   ·intro k_ u w_ hk_ hl_ hJ hF K hK
    have h48 : u 48 = .bool true := AK.facts_get hF 48 (by simp)
    clear hF
    simp only [h48] at hK ⊢
    clear h48
    go_simp
    exact hK.out _ _ (Below.refl _ _) (rfl) trivial
   refine AK.sc (lim := 3) (lo := 0) rfl rfl rfl rfl ?_ ?_
   ·intro k_ u w_ hk_ hl_ hJ hF K hK
    have h49 : u 49 = .bool true := AK.facts_get hF 49 (by simp)
    clear hF
    simp only [h49] at hK ⊢
    clear h49
    go_simp
    exact hK.out _ _ (Below.refl _ _) (rfl) trivial
   refine AK.sc (lim := 3) (lo := 0) rfl rfl rfl rfl ?_ ?_
   ·intro k_ u w_ hk_ hl_ hJ hF K hK
    have h50 : u 50 = .pointer (some ⟨g7, 6, none⟩) := AK.facts_get hF 50 (by simp)
    have h49 : u 49 = .bool true := AK.facts_get hF 49 (by simp)
    clear hF
    simp only [h50, h49] at hK ⊢
    clear h50 h49
    have c_ := (HR8.out.up hJ.1).at 6 _ rfl
    go_simp
    exact hK.out _ _ (Below.refl _ _) (rfl) trivial
   refine AK.sc (lim := 3) (lo := 0) rfl rfl rfl rfl ?_ ?_
   ·intro k_ u w_ hk_ hl_ hJ hF K hK
    have h49 : u 49 = .bool true := AK.facts_get hF 49 (by simp)
    clear hF
    simp only [h49] at hK ⊢
    clear h49
    go_simp
    exact hK.out _ _ (Below.refl _ _) (rfl) trivial
   refine AK.sc (lim := 3) (lo := 0) rfl rfl rfl rfl ?_ ?_
   ·intro k_ u w_ hk_ hl_ hJ hF K hK
    have h52 : u 52 = .pointer (some ⟨s0 + 1, 6, none⟩) := AK.facts_get hF 52 (by simp)
    have h49 : u 49 = .bool true := AK.facts_get hF 49 (by simp)
    clear hF
    simp only [h52, h49] at hK ⊢
    clear h52 h49
    have hW9 := HBC.out.trans (hJ.1.mono HBC.out.size)
    have c_ := (HXB.out.up hW9).cell 6 _ rfl
    go_simp
    exact hK.out _ _ (Below.refl _ _) (rfl) trivial
   refine AK.sc (lim := 3) (lo := 0) rfl rfl rfl rfl ?_ ?_
   ·intro k_ u w_ hk_ hl_ hJ hF K hK
    have h51 : u 51 = .slice A4 x.n c4 := AK.facts_get hF 51 (by simp)
    have h53 : u 53 = .slice x.A x.n x.c := AK.facts_get hF 53 (by simp)
    have h49 : u 49 = .bool true := AK.facts_get hF 49 (by simp)
    clear hF
    simp only [h51, h53, h49] at hK ⊢
    clear h51 h53 h49
    have hW9 := HBC.out.trans (hJ.1.mono HBC.out.size)
    have hx9 := HX2.out.hz.up hW9
    have hr9 := HRX.out.hz.up hJ.1
    go_simp
    refine (HOP.out _ _ _ hr9 hx9).mono ?_
    rintro e w3 ⟨rfl, hb⟩
    exact hK.out _ _ hb (rfl) trivial
   refine AK.sc (lim := 3) (lo := 0) rfl rfl rfl rfl ?_ ?_
   ·intro k_ u w_ hk_ hl_ hJ hF K hK
    have h49 : u 49 = .bool true := AK.facts_get hF 49 (by simp)
    have h54 : u 54 = .bool true := AK.facts_get hF 54 (by simp)
    clear hF
    simp only [h49, h54] at hK ⊢
    clear h49 h54
    go_simp
    exact hK.out _ _ (Below.refl _ _) (rfl) trivial
   refine AK.sc (lim := 3) (lo := 0) rfl rfl rfl rfl ?_ ?_
   ·intro k_ u w_ hk_ hl_ hJ hF K hK
    have h55 : u 55 = .bool true := AK.facts_get hF 55 (by simp)
    clear hF
    simp only [h55] at hK ⊢
    clear h55
    go_simp
    exact hK.out _ _ (Below.refl _ _) (rfl) trivial
   refine AK.ss rfl rfl ?_ ?_
   ·intro u w_ hJ hA_ hF K hK
    have h56 : u 56 = .bool true := AK.facts_get hF 56 (by simp)
    clear hF
    simp only [h56] at hK ⊢
    clear h56
    go_simp
    exact hK.out _ _ (rlJ.mk (k := 1) (hJ.1.trans ((below_alloc_new _).mono hJ.1.size)) rfl (OwnL.empty hJ.1.size)) (by simp) trivial
   refine AK.sc (lim := 3) (lo := 0) rfl rfl rfl rfl ?_ ?_
   ·intro k_ u w_ hk_ hl_ hJ hF K hK
    have h56 : u 56 = .bool true := AK.facts_get hF 56 (by simp)
    clear hF
    simp only [h56] at hK ⊢
    clear h56
    go_simp
    exact hK.out _ _ (Below.refl _ _) (rfl) trivial
   refine AK.sc (lim := 3) (lo := 0) rfl rfl rfl rfl ?_ ?_
   ·intro k_ u w_ hk_ hl_ hJ hF K hK
    have h58 : u 58 = .pointer (some ⟨s0 + 1, 6, none⟩) := AK.facts_get hF 58 (by simp)
    have h56 : u 56 = .bool true := AK.facts_get hF 56 (by simp)
    clear hF
    simp only [h58, h56] at hK ⊢
    clear h58 h56
    have hW9 := HBC.out.trans (hJ.1.mono HBC.out.size)
    have c_ := (HXB.out.up hW9).cell 6 _ rfl
    go_simp
    exact hK.out _ _ (Below.refl _ _) (rfl) trivial
   refine AK.ss rfl rfl ?_ ?_
   ·intro u w_ hJ hA_ hF K hK
    have h59 : u 59 = .slice x.A x.n x.c := AK.facts_get hF 59 (by simp)
    have h56 : u 56 = .bool true := AK.facts_get hF 56 (by simp)
    clear hF
    have hO9 := hJ.2 _ rfl
    simp only [h59, h56] at hK ⊢
    clear h59 h56
    have hW9 := HBC.out.trans (hJ.1.mono HBC.out.size)
    have hx9 := HX2.out.hz.up hW9
    rw [if_pos (by rfl)]
    refine wp_app_lines (.tmp 57) (.tmp 59) 30 rfl wr.heap.size 66 i0 24 Tryz.underlying30 hi hz1 hz2 hz3 (by omega) (u 57) [] rfl hO9 x.A x.n x.c X HXN.out rfl hx9 (by have := HN.out; simp; omega) hJ.1.size ?_
    intro v' w' ho' hg' hb'
    exact hK.out _ _ (rlJ.mk (k := 2) (hJ.1.trans hb') rfl ho'.out) (hg'.out.size) trivial
   refine AK.sc (lim := 3) (lo := 0) rfl rfl rfl rfl ?_ ?_
   ·intro k_ u w_ hk_ hl_ hJ hF K hK
    have h56 : u 56 = .bool true := AK.facts_get hF 56 (by simp)
    clear hF
    simp only [h56] at hK ⊢
    clear h56
    go_simp
    exact hK.out _ _ (Below.refl _ _) (rfl) trivial
   refine AK.sc (lim := 3) (lo := 0) rfl rfl rfl rfl ?_ ?_
   ·intro k_ u w_ hk_ hl_ hJ hF K hK
    have h61 : u 61 = .pointer (some ⟨g7, 6, none⟩) := AK.facts_get hF 61 (by simp)
    have h56 : u 56 = .bool true := AK.facts_get hF 56 (by simp)
    clear hF
    simp only [h61, h56] at hK ⊢
    clear h61 h56
    have c_ := (HR8.out.up hJ.1).at 6 _ rfl
    go_simp
    exact hK.out _ _ (Below.refl _ _) (rfl) trivial
   refine AK.ss rfl rfl ?_ ?_
   ·intro u w_ hJ hA_ hF K hK
    have h62 : u 62 = .slice A4 x.n c4 := AK.facts_get hF 62 (by simp)
    have h56 : u 56 = .bool true := AK.facts_get hF 56 (by simp)
    clear hF
    have hO9 := hJ.2 _ rfl
    simp only [h62, h56] at hK ⊢
    clear h62 h56
    have hx9 := HRX.out.hz.up hJ.1
    rw [if_pos (by rfl)]
    refine wp_app_lines (.tmp 60) (.tmp 62) 30 rfl wr.heap.size 66 i0 24 Tryz.underlying30 hi hz1 hz2 hz3 (by omega) (u 60) X rfl hO9 A4 x.n c4 (X.map negL) HRX.out.ln rfl hx9 (by have := HN.out; have := HXN.out; omega) hJ.1.size ?_
    intro v' w' ho' hg' hb'
    exact hK.out _ _ (rlJ.mk (k := 3) (hJ.1.trans hb') rfl ho'.out) (hg'.out.size) trivial
   refine AK.sc (lim := 3) (lo := 3) rfl rfl rfl rfl ?_ ?_
   ·intro k_ u w_ hk_ hl_ hJ hF K hK
    obtain rfl : k_ = 3 := by omega
    have h56 : u 56 = .bool true := AK.facts_get hF 56 (by simp)
    clear hF
    obtain ⟨A63, c63, h63, hl63⟩ := (hJ.2 _ rfl).reads
    simp only [h56, h63] at hK ⊢
    clear h56 h63
    go_simp
    refine (HNM.out _ A63 c63 hl63).mono ?_
    rintro e w3 ⟨B3, c3, N3, rfl, -, hn3, -, hb3⟩
    obtain rfl := HNO.out _ hn3
    exact hK.out _ _ hb3 ⟨_, _, rfl⟩ trivial
   refine AK.sc (lim := 3) (lo := 0) rfl rfl rfl rfl ?_ ?_
   ·intro k_ u w_ hk_ hl_ hJ hF K hK
    have h64 : ∃ A c, u 64 = .slice A 0 c := AK.facts_get hF 64 (by simp)
    have h56 : u 56 = .bool true := AK.facts_get hF 56 (by simp)
    clear hF
    obtain ⟨A64, c64, h64⟩ := h64
    simp only [h64, h56] at hK ⊢
    clear h64 h56
    go_simp
    exact hK.out _ _ (Below.refl _ _) (rfl) trivial
   refine AK.sc (lim := 3) (lo := 0) rfl rfl rfl rfl ?_ ?_
   ·intro k_ u w_ hk_ hl_ hJ hF K hK
    have h65 : u 65 = .int .i64 0 := AK.facts_get hF 65 (by simp)
    have h56 : u 56 = .bool true := AK.facts_get hF 56 (by simp)
    clear hF
    simp only [h65, h56] at hK ⊢
    clear h65 h56
    go_simp
    exact hK.out _ _ (Below.refl _ _) (rfl) trivial
   refine AK.sc (lim := 3) (lo := 0) rfl rfl rfl rfl ?_ ?_
   ·intro k_ u w_ hk_ hl_ hJ hF K hK
    have h56 : u 56 = .bool true := AK.facts_get hF 56 (by simp)
    have h66 : u 66 = .bool true := AK.facts_get hF 66 (by simp)
    clear hF
    simp only [h56, h66] at hK ⊢
    clear h56 h66
    go_simp
    exact hK.out _ _ (Below.refl _ _) (rfl) trivial
   refine AK.sc (lim := 3) (lo := 0) rfl rfl rfl rfl ?_ ?_
   ·intro k_ u w_ hk_ hl_ hJ hF K hK
    have h67 : u 67 = .bool true := AK.facts_get hF 67 (by simp)
    clear hF
    simp only [h67] at hK ⊢
    clear h67
    go_simp
    exact hK.out _ _ (Below.refl _ _) (rfl) trivial
   exact AK.StepsOk.nil
  ·intro u W9 hJ9 hF
   have h6 : u 6 = .bool true := AK.facts_get hF 6 (by simp [rlFa, AK.temps])
   clear hF
   have hB9 := hJ9.1
   clear hJ9
   simp only [h6]
   clear h6
   go_wp2_with fail
   go_ret
   exact ⟨by first | rfl | simp, (by have h9 := HB2.out.trans ((HBC.out.trans (hB9.mono HBC.out.size)).mono HB2.out.size); first | exact h9 | (rw [← HS0.out]; exact h9))⟩
 ·have HM1 : True := trivial
  have HM2 : True := trivial
  have HM3 : True := trivial
  have HM4 : True := trivial
  have HM5 : True := trivial
  have HM6 : True := trivial
  have HM7 : True := trivial
  rw [show (if (true : Bool) = true then (0 : Int) else 2) = 0 from rfl] at HC2
  go_enter Tryz.func3, Tryz.ntmps3
  go_wp2_with (first
   | (clear HM1; refine wpList_load_is rfl 29 _ rfl (.pointer (some ⟨s0, 0, none⟩)) rfl GV (HLG.out _ HBC.out) ?_)
   | (clear HM2; refine wpList_load_is rfl 32 _ rfl (.pointer (some ⟨s0 + 1, 0, none⟩)) rfl XV (HLX.out _ HBC.out) ?_)
   | (clear HM3; refine wpList_load_if (by rfl) 29 _ rfl (.pointer (some ⟨s0, 0, none⟩)) rfl GV (HLG.out _ HBC.out) ?_)
   | (clear HM4; refine wpList_load_if (by rfl) 32 _ rfl (.pointer (some ⟨s0 + 1, 0, none⟩)) rfl XV (HLX.out _ HBC.out) ?_)
   | (go_at_call 8; refine (eawake_any _).mono ?_; rintro e w3 ⟨rfl, hb⟩; have hB3 := Lib.hid (HBC.out.trans (hb.mono HBC.out.size)); clear hb HBC; have HBC := hB3; clear hB3)
   | (go_at_call 9; refine (HFW.out _ (HK2.out.up HBC.out) (HX2.out.up HBC.out)).mono ?_; rintro e w4 ⟨rfl, hb⟩; have hB3 := Lib.hid (HBC.out.trans (hb.mono HBC.out.size)); clear hb HBC; have HBC := hB3; clear hB3; have d6 := (HXB.out.up HBC.out).cell 6 _ rfl; have q0 := (HAB.out.up HBC.out).at 0 _ rfl; have q1 := (HAB.out.up HBC.out).at 1 _ rfl)
   | (go_at_call 10; refine (HSM.out _ (HX2.out.hz.up HBC.out)).mono ?_; rintro e w5 ⟨rfl, hb⟩; have hB3 := Lib.hid (HBC.out.trans (hb.mono HBC.out.size)); clear hb HBC; have HBC := hB3; clear hB3; clear d6 q0 q1; have d6 := (HXB.out.up HBC.out).cell 6 _ rfl; have q0 := (HAB.out.up HBC.out).at 0 _ rfl; have q1 := (HAB.out.up HBC.out).at 1 _ rfl)
   | (go_at_call 11; refine (HC1.out _ (HK2.out.up HBC.out) (HX2.out.up HBC.out)).mono ?_; rintro e w6 ⟨rfl, hb⟩; have hB3 := Lib.hid (HBC.out.trans (hb.mono HBC.out.size)); clear hb HBC; have HBC := hB3; clear hB3; clear d6 q0 q1; have d6 := (HXB.out.up HBC.out).cell 6 _ rfl; have q0 := (HAB.out.up HBC.out).at 0 _ rfl; have q1 := (HAB.out.up HBC.out).at 1 _ rfl)
   | (clear HM5; refine wpList_load_is rfl 32 _ rfl (.pointer (some ⟨s0 + 1, 0, none⟩)) rfl XV (HLX.out _ HBC.out) ?_)
   | (go_at_call 12; refine (HRV.out _ (HX2.out.up HBC.out)).mono ?_; rintro e w7 ⟨⟨A4, c4, rfl, hr4⟩, hb⟩; have hB3 := Lib.hid (HBC.out.trans (hb.mono HBC.out.size)); clear hb HBC; have HBC := hB3; clear hB3; clear d6 q0 q1; have HR4 := Lib.hid hr4; clear hr4; obtain ⟨g7, hg7⟩ : ∃ g7, w7.heap.size = g7 := ⟨_, rfl⟩; have HG7 := Lib.hid hg7; have HBA := Lib.hid (below_new HBC.out (.cells (#[.int .i64 0, .int .i64 0, .int .i64 0, .int .i64 0, .int .i64 0, .string ⟨#[]⟩, .slice none 0 0] : Array Value) 32)))
   | (clear HM6; refine wpList_store_wh rfl 32 _ _ rfl g7 rfl 32 [.int .i64 0, .int .i64 0, .int .i64 0, .int .i64 0, .int .i64 0, .string ⟨#[]⟩, .slice none 0 0] (etyC (revE x a b A4 c4)) rfl (by rw [← HG7.out]; exact Wh.new w7 32 [.int .i64 0, .int .i64 0, .int .i64 0, .int .i64 0, .int .i64 0, .string ⟨#[]⟩, .slice none 0 0]) rfl (by kernel_rfl) (by kernel_rfl) ?_; intro w8 hr8 ho8 hz8; have hB8 := Lib.hid (HBC.out.trans ((only_new (by rw [HG7.out]; exact ho8.out)).mono HBC.out.size)); have HR8 := Lib.hid hr8.out; have HRX := Lib.hid (HR4.out.up (only_new (by rw [HG7.out]; exact ho8.out))); clear hr8 ho8 hz8 hg7 HBC HBA; have HBC := hB8; clear hB8; have d6 := (HXB.out.up HBC.out).cell 6 _ rfl; have q0 := (HAB.out.up HBC.out).at 0 _ rfl; have q1 := (HAB.out.up HBC.out).at 1 _ rfl)
   | (clear HM7; refine wpList_load_is rfl 23 _ rfl (.pointer (some ⟨s0, 1, none⟩)) rfl (calV g.cy g.cm g.cp) (HLC.out _ HBC.out) ?_)
   | (go_at_call 13; refine (HIC.out _).mono ?_; rintro e wr ⟨rfl, hb⟩; have HBR := Lib.hid hb; have hB3 := Lib.hid (HBC.out.trans (hb.mono HBC.out.size)); clear hb HBC; have HBC := hB3; clear hB3; clear d6 q0 q1))
  have HLR : Hid (∀ w9, Below wr.heap.size wr w9 → (Instr.loadAt 32 (.pointer (some ⟨g7, 0, none⟩))).run Tryz.prog w9 = .ok (etyV (revE x a b A4 c4)) w9) := Lib.hid (fun w9 h9 => by rw [etyV_is]; exact (((HR8.out.up HBR.out).up h9).rg).load 0 32 (etyC (revE x a b A4 c4)) rfl _ Tryz.underlying32 rfl (by kernel_rfl))
  have HR9 := Lib.hid (HR8.out.up HBR.out)
  have HRX9 := Lib.hid (HRX.out.up HBR.out)
  clear HR8 HRX
  have HR8 := HR9
  have HRX := HRX9
  clear HR9 HRX9
  refine AK.region_facts (Rp := Below0) (Kp := SizeUp) (rlFa GV x A4 c4 a b s0 g7 0) (rlJ wr X) [[], [], [44, 45], [], [46, 47], [48], [49], [50, 49], [49], [52, 49], [51, 53, 49], [49, 54], [55], [56], [56], [58, 56], [57, 59, 56], [56], [61, 56], [60, 62, 56], [63, 56], [64, 56], [65, 56], [56, 66], [67]] [13, 16, 19] [[], [57], [60], [63]] [3, 3, 3, 3, 3, 3, 3, 3, 3, 3, 3, 3, 3, 3, 3, 3, 3, 3, 3, 3, 3, 3, 3, 3, 3] [0, 0, 0, 0, 0, 0, 0, 0, 0, 0, 0, 0, 0, 0, 0, 0, 0, 0, 0, 0, 3, 0, 0, 0, 0] [] (fun u => by simp only [rlFa, AK.temps, List.map_cons, List.map_nil, fillL, List.setIfInBounds_toArray, List.set_cons_zero, List.set_cons_succ]; rfl) (by kernel_rfl) (by kernel_rfl) (fun _ _ h => h) (fun _ _ h => h.size) (rlJ.st wr X) (⟨dc_drew (Below.refl _ _), fun v h => by cases h⟩) ?_ ?_
  ·refine AK.sc (lim := 3) (lo := 0) rfl rfl rfl rfl ?_ ?_
   ·intro k_ u w_ hk_ hl_ hJ hF K hK
    clear hF
    have hW9 := HBC.out.trans (hJ.1.mono HBC.out.size)
    refine wp_load_is 29 _ rfl (.pointer (some ⟨s0, 0, none⟩)) rfl GV (HLG.out _ hW9) ?_
    exact hK.out _ _ (Below.refl _ _) (rfl) trivial
   refine AK.sc (lim := 3) (lo := 0) rfl rfl rfl rfl ?_ ?_
   ·intro k_ u w_ hk_ hl_ hJ hF K hK
    clear hF
    have hW8 := hJ.1
    refine wp_load_is 32 _ rfl (.pointer (some ⟨g7, 0, none⟩)) rfl (etyV (revE x a b A4 c4)) (HLR.out _ hW8) ?_
    exact hK.out _ _ (Below.refl _ _) (rfl) trivial
   refine AK.sc (lim := 3) (lo := 0) rfl rfl rfl rfl ?_ ?_
   ·intro k_ u w_ hk_ hl_ hJ hF K hK
    have h44 : u 44 = GV := AK.facts_get hF 44 (by simp)
    have h45 : u 45 = etyV (revE x a b A4 c4) := AK.facts_get hF 45 (by simp)
    clear hF
    simp only [h44, h45] at hK ⊢
    clear h44 h45
    have hW9 := HBC.out.trans (hJ.1.mono HBC.out.size)
    have hk9 := HK2.out.up hW9
    have hx9 := HRX.out.up hJ.1
    go_simp
    refine (HC2.out _ _ _ hk9 hx9).mono ?_
    rintro e w3 ⟨rfl, hb⟩
    exact hK.out _ _ hb (rfl) trivial
   refine AK.sc (lim := 3) (lo := 0) rfl rfl rfl rfl ?_ ?_
   ·intro k_ u w_ hk_ hl_ hJ hF K hK
    clear hF
    go_simp
    exact hK.out _ _ (Below.refl _ _) (rfl) trivial
   refine AK.sc (lim := 3) (lo := 0) rfl rfl rfl rfl ?_ ?_
   ·intro k_ u w_ hk_ hl_ hJ hF K hK
    have h46 : u 46 = .int .i64 0 := AK.facts_get hF 46 (by simp)
    have h47 : u 47 = .int .i64 0 := AK.facts_get hF 47 (by simp)
    clear hF
    simp only [h46, h47] at hK ⊢
    clear h46 h47
    go_simp
    exact hK.out _ _ (Below.refl _ _) (rfl) trivial
   refine AK.sc (lim := 3) (lo := 0) rfl rfl rfl rfl ?_ ?_
   ·intro k_ u w_ hk_ hl_ hJ hF K hK
    have h48 : u 48 = .bool true := AK.facts_get hF 48 (by simp)
    clear hF
    simp only [h48] at hK ⊢
    clear h48
    go_simp
    exact hK.out _ _ (Below.refl _ _) (rfl) trivial
   refine AK.sc (lim := 3) (lo := 0) rfl rfl rfl rfl ?_ ?_
   ·intro k_ u w_ hk_ hl_ hJ hF K hK
    have h49 : u 49 = .bool true := AK.facts_get hF 49 (by simp)
    clear hF
    simp only [h49] at hK ⊢
    clear h49
    go_simp
    exact hK.out _ _ (Below.refl _ _) (rfl) trivial
   refine AK.sc (lim := 3) (lo := 0) rfl rfl rfl rfl ?_ ?_
   ·intro k_ u w_ hk_ hl_ hJ hF K hK
    have h50 : u 50 = .pointer (some ⟨g7, 6, none⟩) := AK.facts_get hF 50 (by simp)
    have h49 : u 49 = .bool true := AK.facts_get hF 49 (by simp)
    clear hF
    simp only [h50, h49] at hK ⊢
    clear h50 h49
    have c_ := (HR8.out.up hJ.1).at 6 _ rfl
    go_simp
    exact hK.out _ _ (Below.refl _ _) (rfl) trivial
   refine AK.sc (lim := 3) (lo := 0) rfl rfl rfl rfl ?_ ?_
   ·intro k_ u w_ hk_ hl_ hJ hF K hK
    have h49 : u 49 = .bool true := AK.facts_get hF 49 (by simp)
    clear hF
    simp only [h49] at hK ⊢
    clear h49
    go_simp
    exact hK.out _ _ (Below.refl _ _) (rfl) trivial
   refine AK.sc (lim := 3) (lo := 0) rfl rfl rfl rfl ?_ ?_
   ·intro k_ u w_ hk_ hl_ hJ hF K hK
    have h52 : u 52 = .pointer (some ⟨s0 + 1, 6, none⟩) := AK.facts_get hF 52 (by simp)
    have h49 : u 49 = .bool true := AK.facts_get hF 49 (by simp)
    clear hF
    simp only [h52, h49] at hK ⊢
    clear h52 h49
    have hW9 := HBC.out.trans (hJ.1.mono HBC.out.size)
    have c_ := (HXB.out.up hW9).cell 6 _ rfl
    go_simp
    exact hK.out _ _ (Below.refl _ _) (rfl) trivial
   refine AK.sc (lim := 3) (lo := 0) rfl rfl rfl rfl ?_ ?_
   ·intro k_ u w_ hk_ hl_ hJ hF K hK
    have h51 : u 51 = .slice A4 x.n c4 := AK.facts_get hF 51 (by simp)
    have h53 : u 53 = .slice x.A x.n x.c := AK.facts_get hF 53 (by simp)
    have h49 : u 49 = .bool true := AK.facts_get hF 49 (by simp)
    clear hF
    simp only [h51, h53, h49] at hK ⊢
    clear h51 h53 h49
    have hW9 := HBC.out.trans (hJ.1.mono HBC.out.size)
    have hx9 := HX2.out.hz.up hW9
    have hr9 := HRX.out.hz.up hJ.1
    go_simp
    refine (HOP.out _ _ _ hr9 hx9).mono ?_
    rintro e w3 ⟨rfl, hb⟩
    exact hK.out _ _ hb (rfl) trivial
   refine AK.sc (lim := 3) (lo := 0) rfl rfl rfl rfl ?_ ?_
   ·intro k_ u w_ hk_ hl_ hJ hF K hK
    have h49 : u 49 = .bool true := AK.facts_get hF 49 (by simp)
    have h54 : u 54 = .bool true := AK.facts_get hF 54 (by simp)
    clear hF
    simp only [h49, h54] at hK ⊢
    clear h49 h54
    go_simp
    exact hK.out _ _ (Below.refl _ _) (rfl) trivial
   refine AK.sc (lim := 3) (lo := 0) rfl rfl rfl rfl ?_ ?_
   ·intro k_ u w_ hk_ hl_ hJ hF K hK
    have h55 : u 55 = .bool true := AK.facts_get hF 55 (by simp)
    clear hF
    simp only [h55] at hK ⊢
    clear h55
    go_simp
    exact hK.out _ _ (Below.refl _ _) (rfl) trivial
   refine AK.ss rfl rfl ?_ ?_
   ·intro u w_ hJ hA_ hF K hK
    have h56 : u 56 = .bool true := AK.facts_get hF 56 (by simp)
    clear hF
    simp only [h56] at hK ⊢
    clear h56
    go_simp
    exact hK.out _ _ (rlJ.mk (k := 1) (hJ.1.trans ((below_alloc_new _).mono hJ.1.size)) rfl (OwnL.empty hJ.1.size)) (by simp) trivial
   refine AK.sc (lim := 3) (lo := 0) rfl rfl rfl rfl ?_ ?_
   ·intro k_ u w_ hk_ hl_ hJ hF K hK
    have h56 : u 56 = .bool true := AK.facts_get hF 56 (by simp)
    clear hF
    simp only [h56] at hK ⊢
    clear h56
    go_simp
    exact hK.out _ _ (Below.refl _ _) (rfl) trivial
   refine AK.sc (lim := 3) (lo := 0) rfl rfl rfl rfl ?_ ?_
   ·intro k_ u w_ hk_ hl_ hJ hF K hK
    have h58 : u 58 = .pointer (some ⟨s0 + 1, 6, none⟩) := AK.facts_get hF 58 (by simp)
    have h56 : u 56 = .bool true := AK.facts_get hF 56 (by simp)
    clear hF
    simp only [h58, h56] at hK ⊢
    clear h58 h56
    have hW9 := HBC.out.trans (hJ.1.mono HBC.out.size)
    have c_ := (HXB.out.up hW9).cell 6 _ rfl
    go_simp
    exact hK.out _ _ (Below.refl _ _) (rfl) trivial
   refine AK.ss rfl rfl ?_ ?_
   ·intro u w_ hJ hA_ hF K hK
    have h59 : u 59 = .slice x.A x.n x.c := AK.facts_get hF 59 (by simp)
    have h56 : u 56 = .bool true := AK.facts_get hF 56 (by simp)
    clear hF
    have hO9 := hJ.2 _ rfl
    simp only [h59, h56] at hK ⊢
    clear h59 h56
    have hW9 := HBC.out.trans (hJ.1.mono HBC.out.size)
    have hx9 := HX2.out.hz.up hW9
    rw [if_pos (by rfl)]
    refine wp_app_lines (.tmp 57) (.tmp 59) 30 rfl wr.heap.size 66 i0 24 Tryz.underlying30 hi hz1 hz2 hz3 (by omega) (u 57) [] rfl hO9 x.A x.n x.c X HXN.out rfl hx9 (by have := HN.out; simp; omega) hJ.1.size ?_
    intro v' w' ho' hg' hb'
    exact hK.out _ _ (rlJ.mk (k := 2) (hJ.1.trans hb') rfl ho'.out) (hg'.out.size) trivial
   refine AK.sc (lim := 3) (lo := 0) rfl rfl rfl rfl ?_ ?_
   ·intro k_ u w_ hk_ hl_ hJ hF K hK
    have h56 : u 56 = .bool true := AK.facts_get hF 56 (by simp)
    clear hF
    simp only [h56] at hK ⊢
    clear h56
    go_simp
    exact hK.out _ _ (Below.refl _ _) (rfl) trivial
   refine AK.sc (lim := 3) (lo := 0) rfl rfl rfl rfl ?_ ?_
   ·intro k_ u w_ hk_ hl_ hJ hF K hK
    have h61 : u 61 = .pointer (some ⟨g7, 6, none⟩) := AK.facts_get hF 61 (by simp)
    have h56 : u 56 = .bool true := AK.facts_get hF 56 (by simp)
    clear hF
    simp only [h61, h56] at hK ⊢
    clear h61 h56
    have c_ := (HR8.out.up hJ.1).at 6 _ rfl
    go_simp
    exact hK.out _ _ (Below.refl _ _) (rfl) trivial
   refine AK.ss rfl rfl ?_ ?_
   ·intro u w_ hJ hA_ hF K hK
    have h62 : u 62 = .slice A4 x.n c4 := AK.facts_get hF 62 (by simp)
    have h56 : u 56 = .bool true := AK.facts_get hF 56 (by simp)
    clear hF
    have hO9 := hJ.2 _ rfl
    simp only [h62, h56] at hK ⊢
    clear h62 h56
    have hx9 := HRX.out.hz.up hJ.1
    rw [if_pos (by rfl)]
    refine wp_app_lines (.tmp 60) (.tmp 62) 30 rfl wr.heap.size 66 i0 24 Tryz.underlying30 hi hz1 hz2 hz3 (by omega) (u 60) X rfl hO9 A4 x.n c4 (X.map negL) HRX.out.ln rfl hx9 (by have := HN.out; have := HXN.out; omega) hJ.1.size ?_
    intro v' w' ho' hg' hb'
    exact hK.out _ _ (rlJ.mk (k := 3) (hJ.1.trans hb') rfl ho'.out) (hg'.out.size) trivial
   refine AK.sc (lim := 3) (lo := 3) rfl rfl rfl rfl ?_ ?_
   ·intro k_ u w_ hk_ hl_ hJ hF K hK
    obtain rfl : k_ = 3 := by omega
    have h56 : u 56 = .bool true := AK.facts_get hF 56 (by simp)
    clear hF
    obtain ⟨A63, c63, h63, hl63⟩ := (hJ.2 _ rfl).reads
    simp only [h56, h63] at hK ⊢
    clear h56 h63
    go_simp
    refine (HNM.out _ A63 c63 hl63).mono ?_
    rintro e w3 ⟨B3, c3, N3, rfl, -, hn3, -, hb3⟩
    obtain rfl := HNO.out _ hn3
    exact hK.out _ _ hb3 ⟨_, _, rfl⟩ trivial
   refine AK.sc (lim := 3) (lo := 0) rfl rfl rfl rfl ?_ ?_
   ·intro k_ u w_ hk_ hl_ hJ hF K hK
    have h64 : ∃ A c, u 64 = .slice A 0 c := AK.facts_get hF 64 (by simp)
    have h56 : u 56 = .bool true := AK.facts_get hF 56 (by simp)
    clear hF
    obtain ⟨A64, c64, h64⟩ := h64
    simp only [h64, h56] at hK ⊢
    clear h64 h56
    go_simp
    exact hK.out _ _ (Below.refl _ _) (rfl) trivial
   refine AK.sc (lim := 3) (lo := 0) rfl rfl rfl rfl ?_ ?_
   ·intro k_ u w_ hk_ hl_ hJ hF K hK
    have h65 : u 65 = .int .i64 0 := AK.facts_get hF 65 (by simp)
    have h56 : u 56 = .bool true := AK.facts_get hF 56 (by simp)
    clear hF
    simp only [h65, h56] at hK ⊢
    clear h65 h56
    go_simp
    exact hK.out _ _ (Below.refl _ _) (rfl) trivial
   refine AK.sc (lim := 3) (lo := 0) rfl rfl rfl rfl ?_ ?_
   ·intro k_ u w_ hk_ hl_ hJ hF K hK
    have h56 : u 56 = .bool true := AK.facts_get hF 56 (by simp)
    have h66 : u 66 = .bool true := AK.facts_get hF 66 (by simp)
    clear hF
    simp only [h56, h66] at hK ⊢
    clear h56 h66
    go_simp
    exact hK.out _ _ (Below.refl _ _) (rfl) trivial
   refine AK.sc (lim := 3) (lo := 0) rfl rfl rfl rfl ?_ ?_
   ·intro k_ u w_ hk_ hl_ hJ hF K hK
    have h67 : u 67 = .bool true := AK.facts_get hF 67 (by simp)
    clear hF
    simp only [h67] at hK ⊢
    clear h67
    go_simp
    exact hK.out _ _ (Below.refl _ _) (rfl) trivial
   exact AK.StepsOk.nil
  ·intro u W9 hJ9 hF
   have h6 : u 6 = .bool true := AK.facts_get hF 6 (by simp [rlFa, AK.temps])
   clear hF
   have hB9 := hJ9.1
   clear hJ9
   simp only [h6]
   clear h6
   go_wp2_with fail
   go_ret
   exact ⟨by first | rfl | simp, (by have h9 := HB2.out.trans ((HBC.out.trans (hB9.mono HBC.out.size)).mono HB2.out.size); first | exact h9 | (rw [← HS0.out]; exact h9))⟩
open Go.ChangeShapes Go.WideShapes Go.ChangeAt Go.WideMaps Go.WideElems Go.RowKit Go.Deep Go.Joins
section
variable {H : Type} {enc : TypeId × Value → H} {P : Program} {W : World}
theorem open_nums {E I : TypeId} {fs : Array Field} {fuel : Nat} {cs : List Value} {x : DataW H × List MemPlace} (hE : P.underlying E = some (.struct fs))
  (hone : oneCellFields P fs = true) (hty : (fs.toList.all fun f => f.type == I) = true) (hI : P.underlying I = some (.int .i64))
  (hl : cs.length = fs.size) (h2 : DataW.trod enc P W 0 (fun _ => true) true fuel E cs = some x) :
  ∀ j, j < fs.size → ∃ z : Int, cs[j]? = some (.int .i64 z) ∧ (Lit.int .i64 z).wf = true := by
 intro j hj
 obtain ⟨xs, n', -, -, -, hxl, hff⟩ := DataW.trod_struct hE h2
 have hfj : fs[j]? = some fs[j] := Array.getElem?_eq_getElem hj
 obtain ⟨ho, hk1⟩ := hone_of hone j _ hfj
 have ht : fs[j].type = I := by
  have := List.all_eq_true.1 hty fs[j] (by simp)
  simpa using this
 have hxj : xs[j]? = some (xs[j]'(by omega)) := List.getElem?_eq_getElem (by omega)
 have h3 := hff j _ hfj
 rw [ho, hk1, ht, hxj] at h3
 obtain ⟨z, hz, -, hw⟩ := DataW.trod_int hI h3
 refine ⟨z, ?_, hw⟩
 have h5 : (cs.drop j).take 1 = [cs[j]'(by omega)] := by
  rw [List.drop_eq_getElem_cons (by omega)]; rfl
 rw [h5] at hz
 rw [List.getElem?_eq_getElem (by omega)]
 injection hz with hz
 rw [hz]
end
theorem cells21 {cs : List Value} (h : cs.length = 21) : ∃ c0 c1 c2 c3 c4 c5 c6 c7 c8 c9 c10 c11 c12 c13 c14 c15 c16 c17 c18 c19 c20, cs = [c0, c1, c2, c3, c4, c5, c6, c7, c8, c9, c10, c11, c12, c13, c14, c15, c16, c17, c18, c19, c20] := by
 match cs, h with
 | [c0, c1, c2, c3, c4, c5, c6, c7, c8, c9, c10, c11, c12, c13, c14, c15, c16, c17, c18, c19, c20], _ => exact ⟨c0, c1, c2, c3, c4, c5, c6, c7, c8, c9, c10, c11, c12, c13, c14, c15, c16, c17, c18, c19, c20, rfl⟩
section
variable {H : Type} {enc : TypeId × Value → H} {W : World}
set_option maxRecDepth 100000 in
theorem open_igrp {b0 : Nat} {v : Value} {d : DataW H} {p : List MemPlace} (hval : Value.okWide Tryz.prog W .any b0 29 v) (h : DataW.Trod enc Tryz.prog W 0 (fun _ => true) true 29 v d p) :
  ∃ g L G, v = grpV g ∧ GrK W g L G ∧ GrW g L G ∧ g.m ≤ 9223372036854775807 := by
 obtain ⟨cs, rfl, hsz⟩ := okWide_struct Tryz.underlying29 hval
 obtain ⟨fuel, hf⟩ := h
 have hcs : (Value.agg cs).cells.toList = cs.toList := by simp [Value.cells]
 rw [hcs] at hf
 obtain ⟨xs, n', -, -, hlen, hxl, hff⟩ := DataW.trod_struct Tryz.underlying29 hf
 have hC : Tryz.prog.cellsOf 29 = 21 := by kernel_rfl
 rw [hC] at hlen
 obtain ⟨c0, c1, c2, c3, c4, c5, c6, c7, c8, c9, c10, c11, c12, c13, c14, c15, c16, c17, c18, c19, c20, e21⟩ := cells21 hlen
 have k9 : Tryz.prog.cellsOf 9 = 1 := by kernel_rfl
 have kc : Tryz.prog.cellsOf 23 = 3 := by kernel_rfl
 have ka : Tryz.prog.cellsOf 24 = 1 := by kernel_rfl
 have kr : Tryz.prog.cellsOf 26 = 15 := by kernel_rfl
 have ke : Tryz.prog.cellsOf 27 = 1 := by kernel_rfl
 have hxl' : xs.length = 5 := hxl
 have hget : ∀ i, i < 5 → ∃ y, xs[i]? = some y := fun i hi => ⟨_, List.getElem?_eq_getElem (by omega)⟩
 have h0 : DataW.trod enc Tryz.prog W 0 (fun _ => true) true n' 9 ((cs.toList.drop 0).take (Tryz.prog.cellsOf 9)) = xs[0]? := hff 0 _ rfl
 have h1 : DataW.trod enc Tryz.prog W 0 (fun _ => true) true n' 23 ((cs.toList.drop 1).take (Tryz.prog.cellsOf 23)) = xs[1]? := hff 1 _ rfl
 have h2 : DataW.trod enc Tryz.prog W 0 (fun _ => true) true n' 24 ((cs.toList.drop 4).take (Tryz.prog.cellsOf 24)) = xs[2]? := hff 2 _ rfl
 have h3 : DataW.trod enc Tryz.prog W 0 (fun _ => true) true n' 26 ((cs.toList.drop 5).take (Tryz.prog.cellsOf 26)) = xs[3]? := hff 3 _ rfl
 have h4 : DataW.trod enc Tryz.prog W 0 (fun _ => true) true n' 27 ((cs.toList.drop 20).take (Tryz.prog.cellsOf 27)) = xs[4]? := hff 4 _ rfl
 obtain ⟨y0, e0⟩ := hget 0 (by omega)
 obtain ⟨y1, e1⟩ := hget 1 (by omega)
 obtain ⟨y2, e2⟩ := hget 2 (by omega)
 obtain ⟨y3, e3⟩ := hget 3 (by omega)
 obtain ⟨y4, e4⟩ := hget 4 (by omega)
 rw [e0, k9, e21] at h0
 rw [e1, kc, e21] at h1
 rw [e2, ka, e21] at h2
 rw [e3, kr, e21] at h3
 rw [e4, ke, e21] at h4
 have n1 := open_nums (cs := [c1, c2, c3]) Tryz.underlying23 (by kernel_rfl) (by kernel_rfl) Tryz.underlying3 rfl h1
 have n3 := open_nums (cs := [c5, c6, c7, c8, c9, c10, c11, c12, c13, c14, c15, c16, c17, c18, c19]) Tryz.underlying26 (by kernel_rfl) (by kernel_rfl) Tryz.underlying3 rfl h3
 obtain ⟨cur, q0, -, bc⟩ := DataW.trod_string Tryz.underlying9 h0
 obtain ⟨A, n, c, L, q4, ln, -, hz, wa⟩ := open_waccs Tryz.underlying24 Tryz.underlying130 (by kernel_rfl) (by kernel_rfl) (by kernel_rfl) Tryz.underlying3 h2
 obtain ⟨X, m, cap, G, q20, lg, hmx, he, hk, hb⟩ := open_entsC Tryz.underlying27 h4
 obtain ⟨z1, p1, -⟩ := n1 0 (by decide)
 obtain ⟨z2, p2, -⟩ := n1 1 (by decide)
 obtain ⟨z3, p3, -⟩ := n1 2 (by decide)
 obtain ⟨r0, s0, w0⟩ := n3 0 (by decide)
 obtain ⟨r1, s1, w1⟩ := n3 1 (by decide)
 obtain ⟨r2, s2, w2⟩ := n3 2 (by decide)
 obtain ⟨r3, s3, w3⟩ := n3 3 (by decide)
 obtain ⟨r4, s4, w4⟩ := n3 4 (by decide)
 obtain ⟨r5, s5, w5⟩ := n3 5 (by decide)
 obtain ⟨r6, s6, w6⟩ := n3 6 (by decide)
 obtain ⟨r7, s7, w7⟩ := n3 7 (by decide)
 obtain ⟨r8, s8, w8⟩ := n3 8 (by decide)
 obtain ⟨r9, s9, w9⟩ := n3 9 (by decide)
 obtain ⟨r10, s10, w10⟩ := n3 10 (by decide)
 obtain ⟨r11, s11, w11⟩ := n3 11 (by decide)
 obtain ⟨r12, s12, w12⟩ := n3 12 (by decide)
 obtain ⟨r13, s13, w13⟩ := n3 13 (by decide)
 obtain ⟨r14, s14, w14⟩ := n3 14 (by decide)
 have a0 : c0 = .string cur := by simpa using q0
 have a4 : c4 = .slice A n c := by simpa using q4
 have a20 : c20 = .slice X m cap := by simpa using q20
 have b1 : c1 = .int .i64 z1 := by simpa using p1
 have b2 : c2 = .int .i64 z2 := by simpa using p2
 have b3 : c3 = .int .i64 z3 := by simpa using p3
 have t0 : c5 = .int .i64 r0 := by simpa using s0
 have t1 : c6 = .int .i64 r1 := by simpa using s1
 have t2 : c7 = .int .i64 r2 := by simpa using s2
 have t3 : c8 = .int .i64 r3 := by simpa using s3
 have t4 : c9 = .int .i64 r4 := by simpa using s4
 have t5 : c10 = .int .i64 r5 := by simpa using s5
 have t6 : c11 = .int .i64 r6 := by simpa using s6
 have t7 : c12 = .int .i64 r7 := by simpa using s7
 have t8 : c13 = .int .i64 r8 := by simpa using s8
 have t9 : c14 = .int .i64 r9 := by simpa using s9
 have t10 : c15 = .int .i64 r10 := by simpa using s10
 have t11 : c16 = .int .i64 r11 := by simpa using s11
 have t12 : c17 = .int .i64 r12 := by simpa using s12
 have t13 : c18 = .int .i64 r13 := by simpa using s13
 have t14 : c19 = .int .i64 r14 := by simpa using s14
 subst a0 a4 a20 b1 b2 b3 t0 t1 t2 t3 t4 t5 t6 t7 t8 t9 t10 t11 t12 t13 t14
 refine ⟨⟨cur, z1, z2, z3, A, n, c, r0, r1, r2, r3, r4, r5, r6, r7, r8, r9, r10, r11, r12, r13, r14, X, m, cap⟩, L, G, ?_, ⟨ln, lg, hz, he, hk⟩, ⟨bc, fun x hx => ?_, hb⟩, hmx⟩
 ·rw [← Array.toArray_toList (xs := cs), e21]
 ·simp only [Grp.R, List.mem_cons, List.mem_nil_iff, or_false] at hx
  rcases hx with rfl | rfl | rfl | rfl | rfl | rfl | rfl | rfl | rfl | rfl | rfl | rfl | rfl | rfl | rfl
  ·exact w0
  ·exact w1
  ·exact w2
  ·exact w3
  ·exact w4
  ·exact w5
  ·exact w6
  ·exact w7
  ·exact w8
  ·exact w9
  ·exact w10
  ·exact w11
  ·exact w12
  ·exact w13
  ·exact w14
end
open Go.ChangeShapes Go.WideShapes Go.ChangeAt Go.WideMaps Go.WideElems Go.RowKit Go.Deep Go.Joins
theorem open_wlineK {H : Type} {enc : TypeId × Value → H} {W : World} {fuel : Nat} {cs : List Value} {x : DataW H × List MemPlace} (hf : DataW.trod enc Tryz.prog W 0 (fun _ => true) true fuel 30 cs = some x) :
  ∃ A len cap K, cs = [.slice A len cap] ∧ K.length = len ∧ len ≤ 9223372036854775807 ∧ LnkAt W A K ∧ ∀ l ∈ K, okK (kOf l) ∧ (Lit.int .i64 l.tgt).wf = true := by
 obtain ⟨A, len, cap, K, hcs, hlen, hmax, hz, hw⟩ := open_wlnks Tryz.underlying30 Tryz.underlying66 (by kernel_rfl) (by kernel_rfl) (by kernel_rfl) Tryz.underlying3 hf
 exact ⟨A, len, cap, K, hcs, hlen, hmax, hz, fun l hl => ⟨⟨(hw l hl).frm, (hw l hl).since⟩, (hw l hl).tgt⟩⟩
theorem cellsE7 {cs : List Value} (h : cs.length = 7) : ∃ c0 c1 c2 c3 c4 c5 c6, cs = [c0, c1, c2, c3, c4, c5, c6] := by
 match cs, h with
 | [c0, c1, c2, c3, c4, c5, c6], _ => exact ⟨c0, c1, c2, c3, c4, c5, c6, rfl⟩
section
variable {H : Type} {enc : TypeId × Value → H} {W : World}
set_option maxRecDepth 100000 in
theorem open_iety {b0 : Nat} {v : Value} {d : DataW H} {p : List MemPlace} (hval : Value.okWide Tryz.prog W .any b0 32 v) (h : DataW.Trod enc Tryz.prog W 0 (fun _ => true) true 32 v d p) :
  ∃ x X, v = etyV x ∧ EtyK W x X ∧ x.n ≤ 9223372036854775807 ∧ x.txt.size ≤ maxLen := by
 obtain ⟨cs, rfl, hsz⟩ := okWide_struct Tryz.underlying32 hval
 obtain ⟨fuel, hf⟩ := h
 have hcs : (Value.agg cs).cells.toList = cs.toList := by simp [Value.cells]
 rw [hcs] at hf
 obtain ⟨xs, n', -, -, hlen, hxl, hff⟩ := DataW.trod_struct Tryz.underlying32 hf
 have hC : Tryz.prog.cellsOf 32 = 7 := by kernel_rfl
 rw [hC] at hlen
 obtain ⟨c0, c1, c2, c3, c4, c5, c6, e7⟩ := cellsE7 hlen
 have k9 : Tryz.prog.cellsOf 9 = 1 := by kernel_rfl
 have ki : Tryz.prog.cellsOf 3 = 1 := by kernel_rfl
 have kl : Tryz.prog.cellsOf 30 = 1 := by kernel_rfl
 have hxl' : xs.length = 7 := hxl
 have hget : ∀ i, i < 7 → ∃ y, xs[i]? = some y := fun i hi => ⟨_, List.getElem?_eq_getElem (by omega)⟩
 have h0 : DataW.trod enc Tryz.prog W 0 (fun _ => true) true n' 3 ((cs.toList.drop 0).take (Tryz.prog.cellsOf 3)) = xs[0]? := hff 0 _ rfl
 have h1 : DataW.trod enc Tryz.prog W 0 (fun _ => true) true n' 3 ((cs.toList.drop 1).take (Tryz.prog.cellsOf 3)) = xs[1]? := hff 1 _ rfl
 have h2 : DataW.trod enc Tryz.prog W 0 (fun _ => true) true n' 3 ((cs.toList.drop 2).take (Tryz.prog.cellsOf 3)) = xs[2]? := hff 2 _ rfl
 have h3 : DataW.trod enc Tryz.prog W 0 (fun _ => true) true n' 3 ((cs.toList.drop 3).take (Tryz.prog.cellsOf 3)) = xs[3]? := hff 3 _ rfl
 have h4 : DataW.trod enc Tryz.prog W 0 (fun _ => true) true n' 3 ((cs.toList.drop 4).take (Tryz.prog.cellsOf 3)) = xs[4]? := hff 4 _ rfl
 have h5 : DataW.trod enc Tryz.prog W 0 (fun _ => true) true n' 9 ((cs.toList.drop 5).take (Tryz.prog.cellsOf 9)) = xs[5]? := hff 5 _ rfl
 have h6 : DataW.trod enc Tryz.prog W 0 (fun _ => true) true n' 30 ((cs.toList.drop 6).take (Tryz.prog.cellsOf 30)) = xs[6]? := hff 6 _ rfl
 obtain ⟨y0, e0⟩ := hget 0 (by omega)
 obtain ⟨y1, e1⟩ := hget 1 (by omega)
 obtain ⟨y2, e2⟩ := hget 2 (by omega)
 obtain ⟨y3, e3⟩ := hget 3 (by omega)
 obtain ⟨y4, e4⟩ := hget 4 (by omega)
 obtain ⟨y5, e5⟩ := hget 5 (by omega)
 obtain ⟨y6, e6⟩ := hget 6 (by omega)
 rw [e0, ki, e7] at h0
 rw [e1, ki, e7] at h1
 rw [e2, ki, e7] at h2
 rw [e3, ki, e7] at h3
 rw [e4, ki, e7] at h4
 rw [e5, k9, e7] at h5
 rw [e6, kl, e7] at h6
 obtain ⟨z0, q0, -, -⟩ := DataW.trod_int Tryz.underlying3 h0
 obtain ⟨z1, q1, -, -⟩ := DataW.trod_int Tryz.underlying3 h1
 obtain ⟨z2, q2, -, -⟩ := DataW.trod_int Tryz.underlying3 h2
 obtain ⟨z3, q3, -, -⟩ := DataW.trod_int Tryz.underlying3 h3
 obtain ⟨z4, q4, -, -⟩ := DataW.trod_int Tryz.underlying3 h4
 obtain ⟨tx, q5, -, bt⟩ := DataW.trod_string Tryz.underlying9 h5
 obtain ⟨A, n, c, X, q6, lx, hmx, hz, ok⟩ := open_wlineK h6
 have a0 : c0 = .int .i64 z0 := by simpa using q0
 have a1 : c1 = .int .i64 z1 := by simpa using q1
 have a2 : c2 = .int .i64 z2 := by simpa using q2
 have a3 : c3 = .int .i64 z3 := by simpa using q3
 have a4 : c4 = .int .i64 z4 := by simpa using q4
 have a5 : c5 = .string tx := by simpa using q5
 have a6 : c6 = .slice A n c := by simpa using q6
 subst a0 a1 a2 a3 a4 a5 a6
 refine ⟨⟨z0, z1, z2, z3, z4, tx, A, n, c⟩, X, ?_, ⟨lx, hz, ok⟩, hmx, bt⟩
 rw [← Array.toArray_toList (xs := cs), e7]
end
open Go.ChangeShapes Go.WideShapes Go.ChangeAt Go.WideMaps Go.WideElems Go.RowKit
theorem two_ofA {α : Type} (l : List α) (h : (⟨l⟩ : Array α).size = 2) : ∃ a b, l = [a, b] := by
 match l, h with
 | [a, b], _ => exact ⟨a, b, rfl⟩
section
variable {H : Type} {enc : TypeId × Value → H} {P : Program} {w : World} {r : Reach} {b0 base : Nat} {t e : TypeId} {k : IntKind} {spare : Nat → Bool} {held : Bool} {v : Value} {d : DataW H} {ps : List MemPlace}
theorem open_iarr (ht : P.underlying t = some (.array 2 e)) (he : P.underlying e = some (.int k)) (hce : P.cellsOf e = 1) (hct : P.cellsOf t = 2) (hval : Value.okWide P w r b0 t v) (hd : DataW.Trod enc P w base spare held t v d ps) :
  ∃ x y, v = .agg #[.int k x, .int k y] ∧ d = .agg [.lit (.int k x), .lit (.int k y)] ∧ ps = [] ∧ (Lit.int k x).wf = true ∧ (Lit.int k y).wf = true := by
 obtain ⟨cs, rfl, hsz, _⟩ : ∃ cs, v = .agg cs ∧ cs.size = P.cellsOf t ∧ Row.okWide P w r b0 t cs := by
  simpa [Value.okWide, ht] using hval
 rw [hct] at hsz
 obtain ⟨l⟩ := cs
 obtain ⟨c0, c1, rfl⟩ := two_ofA l hsz
 obtain ⟨fuel, hf⟩ := hd
 obtain ⟨xs, m, _, hx, _, hl, hel⟩ := DataW.trod_array ht hf
 match xs, hl, hx, hel with
 | [q0, q1], _, hx, hel =>
  have e0 := hel 0 (by omega)
  have e1 := hel 1 (by omega)
  rw [hce] at e0 e1
  obtain ⟨x, h0, h0', w0⟩ := DataW.trod_int he (by simpa [Value.cells] using e0 : DataW.trod enc P w base spare held m e [c0] = some q0)
  obtain ⟨y, h1, h1', w1⟩ := DataW.trod_int he (by simpa [Value.cells] using e1 : DataW.trod enc P w base spare held m e [c1] = some q1)
  simp at h0 h1
  subst h0 h1 h0' h1'
  simp only [List.map_cons, List.map_nil, List.flatMap_cons, List.flatMap_nil, List.append_nil, Prod.mk.injEq] at hx
  exact ⟨x, y, rfl, hx.1, hx.2, w0, w1⟩
end
end Go.Proofs.YtbcphcheomojdaaGreat
