/- Contracts and the law of RationalScale, part 1: what was proved of each, callees first. -/
import Derived.Deep.RegionHeld
import Derived.Below
import Derived.Deep.Draws
import Derived.Deep.CutRange
import Derived.Test.YtgihmikeapbpkaaGreatDoorK10
namespace Go.Proofs.YtgihmikeapbpkaaGreatDoor
open Go Go.RowKit
def temps (FL : List (Nat × Fact)) : List Nat := FL.map (·.1)
def Facts (FL : List (Nat × Fact)) (u : Nat → Value) (w : World) : List Nat → Prop
 | [] => True
 | d :: ds => (look FL d).p (u d) w ∧ Facts FL u w ds
theorem facts_mk {FL : List (Nat × Fact)} {u : Nat → Value} {w : World} {ds : List Nat} (h : ∀ d ∈ ds, (look FL d).p (u d) w) : Facts FL u w ds := by
 induction ds with
 | nil => trivial
 | cons d ds ih => exact ⟨h d (List.mem_cons_self ..), ih fun e he => h e (List.mem_cons_of_mem _ he)⟩
theorem facts_get {FL : List (Nat × Fact)} {u : Nat → Value} {w : World} {ds : List Nat} (h : Facts FL u w ds) (d : Nat) (hd : d ∈ ds) : (look FL d).p (u d) w := by
 induction ds with
 | nil => cases hd
 | cons e ds ih =>
  rcases List.mem_cons.1 hd with rfl | hd
  ·exact h.1
  ·exact ih h.2 hd
def anyChk (ops : Array Oper) (pt : List (List Nat)) (ds : List Nat) : Bool :=
 (List.range ops.size).all fun i => match ops[i]? with
  | none => true
  | some o => (o.after.all fun e => decide (e.on < i)) && (match o.dst with | some d => ds.contains d | none => true) &&
   (pt.getD i []).all fun d => o.after.any fun e => Region.binds .any e && ((match ops[e.on]? with | some o' => o'.dst == some d | none => false) || (pt.getD e.on []).contains d)
def allWritten (ops : Array Oper) (ds : List Nat) : Bool := ds.all fun d => ops.any fun o => o.dst == some d
section
variable {P : Program} {ops : Array Oper} {Q : Exit → Act → World → Prop} {FL : List (Nat × Fact)} {J : World → Prop} {t0 : Array Value} {df : List Deferred} {ds : List Nat}
def StepOk (P : Program) (ops : Array Oper) (Q : Exit → Act → World → Prop) (FL : List (Nat × Fact)) (J : World → Prop) (t0 : Array Value) (df : List Deferred) (ds : List Nat) (o : Oper) (need : List Nat) : Prop :=
 ∀ (u : Nat → Value) (w : World), J w → Facts FL u w need → ∀ K : Act → World → Prop, Shut (∀ v w', J w' → Below w.heap.size w w' → factOf FL o.dst v w' → K ((⟨fillL u ds t0, df⟩ : Act).put o.dst v) w') →
  if Region.wanted o (yielded ops (fillL u ds t0)) = true then Oper.wp P o ⟨fillL u ds t0, df⟩ w K Q else K ((⟨fillL u ds t0, df⟩ : Act).put o.dst undef) w
def StepsOk (P : Program) (ops : Array Oper) (Q : Exit → Act → World → Prop) (FL : List (Nat × Fact)) (J : World → Prop) (t0 : Array Value) (df : List Deferred) (ds : List Nat) : List Oper → List (List Nat) → Prop
 | [], _ => True
 | o :: rest, [] => StepOk P ops Q FL J t0 df ds o [] ∧ StepsOk P ops Q FL J t0 df ds rest []
 | o :: rest, n :: ns => StepOk P ops Q FL J t0 df ds o n ∧ StepsOk P ops Q FL J t0 df ds rest ns
theorem steps_at : ∀ (l : List Oper) (pt : List (List Nat)), StepsOk P ops Q FL J t0 df ds l pt → ∀ i o, l[i]? = some o → StepOk P ops Q FL J t0 df ds o (pt.getD i []) := by
 intro l
 induction l with
 | nil => intro pt _ i o h; simp at h
 | cons x l ih =>
  intro pt hs i o h
  cases pt with
  | nil =>
   cases i with
   | zero => simp at h; subst h; exact hs.1
   | succ i => have := ih [] hs.2 i o (by simpa using h); simpa using this
  | cons n ns =>
   cases i with
   | zero => simp at h; subst h; exact hs.1
   | succ i => have := ih ns hs.2 i o (by simpa using h); simpa using this
def Written (ops : Array Oper) (listed : Array Bool) (d : Nat) : Prop := ∃ j o', listed.getD j false = true ∧ ops[j]? = some o' ∧ o'.dst = some d
structure Inv (ops : Array Oper) (FL : List (Nat × Fact)) (J : World → Prop) (t0 : Array Value) (df : List Deferred) (ds : List Nat) (pt : List (List Nat)) (listed : Array Bool) (a : Act) (w : World) : Prop where
 j : J w
 fr : ∃ u, a = ⟨fillL u ds t0, df⟩ ∧ ∀ d, Written ops listed d → (look FL d).p (u d) w
 cl : ∀ i, listed.getD i false = true → ∀ d ∈ pt.getD i [], Written ops listed d
 sz : listed.size = ops.size
theorem Written.more {listed : Array Bool} {d i : Nat} (h : Written ops listed d) : Written ops (listed.setIfInBounds i true) d := by
 obtain ⟨j, o', h1, h2, h3⟩ := h
 exact ⟨j, o', getD_set_true h1, h2, h3⟩
theorem anyChk_spec {pt : List (List Nat)} (h : anyChk ops pt ds = true) {i : Nat} {o : Oper} (ho : ops[i]? = some o) :
  (∀ e ∈ o.after, e.on < i) ∧ (∀ d, o.dst = some d → d ∈ ds) ∧ (∀ d ∈ pt.getD i [], ∃ e ∈ o.after, Region.binds .any e = true ∧ ((∃ o', ops[e.on]? = some o' ∧ o'.dst = some d) ∨ d ∈ pt.getD e.on [])) := by
 have hlt : i < ops.size := (Array.getElem?_eq_some_iff.1 ho).1
 unfold anyChk at h
 rw [List.all_eq_true] at h
 have h1 := h i (List.mem_range.2 hlt)
 rw [ho] at h1
 simp only [Bool.and_eq_true] at h1
 obtain ⟨⟨ha, hb⟩, hc⟩ := h1
 refine ⟨fun e he => ?_, fun d hd => ?_, fun d hd => ?_⟩
 ·rw [Array.all_eq_true_iff_forall_mem] at ha
  exact of_decide_eq_true (ha e he)
 ·rw [hd] at hb
  simpa using hb
 ·rw [List.all_eq_true] at hc
  have h2 := hc d hd
  rw [Array.any_eq_true] at h2
  obtain ⟨k, hk, h3⟩ := h2
  rw [Bool.and_eq_true, Bool.or_eq_true] at h3
  refine ⟨o.after[k], Array.getElem_mem _, h3.1, ?_⟩
  rcases h3.2 with h4 | h4
  ·left
   cases h5 : ops[(o.after[k]).on]? with
   | none => rw [h5] at h4; cases h4
   | some o' => rw [h5] at h4; exact ⟨o', rfl, by simpa using h4⟩
  ·right; simpa using h4
theorem inv_step {pt : List (List Nat)} (hchk : anyChk ops pt ds = true) (hs : StepsOk P ops Q FL J t0 df ds ops.toList pt) {listed : Array Bool} {a : Act} {w : World} (hI : Inv ops FL J t0 df ds pt listed a w) {i : Nat} (hi : i ∈ Region.ready .any ops listed) :
  wpOp P ops Q i (Inv ops FL J t0 df ds pt (listed.setIfInBounds i true)) a w := by
 obtain ⟨h0, o, ho, hall⟩ := mem_ready.1 hi
 obtain ⟨c1, c2, c3⟩ := anyChk_spec hchk ho
 obtain ⟨u, rfl, hfac⟩ := hI.fr
 have hlt : i < ops.size := (Array.getElem?_eq_some_iff.1 ho).1
 have hneed : ∀ d ∈ pt.getD i [], Written ops listed d := by
  intro d hd
  obtain ⟨e, he, hb, h1⟩ := c3 d hd
  have h2 := hall e he hb
  rcases h1 with ⟨o', h3, h4⟩ | h3
  ·exact ⟨e.on, o', h2, h3, h4⟩
  ·exact hI.cl e.on h2 d h3
 have hst := steps_at _ _ hs i o (by simpa using ho) u w hI.j (facts_mk fun d hd => hfac d (hneed d hd))
 refine wpOp_step ho (fun K' hK => hst K' ?_)
 intro v w' hj hb hf
 refine hK _ _ ⟨hj, ⟨upd u o.dst v, put_fill u o v c2, ?_⟩, ?_, by simpa using hI.sz⟩
 ·rintro d ⟨j, o', h1, h2, h3⟩
  by_cases hd : o.dst = some d
  ·rw [hd] at hf ⊢
   have e : upd u (some d) v d = v := by simp [upd]
   rw [e]; exact hf
  ·have hw : Written ops listed d := by
    by_cases hij : i = j
    ·subst hij
     rw [ho] at h2
     injection h2 with h2
     subst h2
     exact absurd h3 hd
    ·rw [getD_set_ne false hij] at h1
     exact ⟨j, o', h1, h2, h3⟩
   have e : upd u o.dst v d = u d := by
    cases h : o.dst with
    | none => rfl
    | some d' => rw [h] at hd; simp only [upd]; rw [if_neg (fun h => hd (by rw [h]))]
   rw [e]
   exact (look FL d).st _ _ _ hb (hfac d hw)
 ·intro k hk d hd
  by_cases hik : i = k
  ·subst hik
   exact (hneed d hd).more
  ·rw [getD_set_ne false hik] at hk
   exact (hI.cl k hk d hd).more
theorem ready_nil_all {pt : List (List Nat)} (hchk : anyChk ops pt ds = true) {listed : Array Bool} (hsz : listed.size = ops.size) (hr : Region.ready .any ops listed = []) : ∀ n i, i < n → i < ops.size → listed.getD i false = true := by
 intro n
 induction n with
 | zero => intro i h; omega
 | succ n ih =>
  intro i hin hi
  have hil : i < listed.size := by omega
  cases hv : listed.getD i false with
  | true => rfl
  | false =>
   exfalso
   have ho : ops[i]? = some ops[i] := by simp [hi]
   obtain ⟨c1, -, -⟩ := anyChk_spec hchk ho
   have : i ∈ Region.ready .any ops listed := by
    rw [mem_ready]
    refine ⟨by simp [hil] at hv ⊢; exact hv, _, ho, fun e he _ => ?_⟩
    have h1 := c1 e he
    exact ih e.on (by omega) (by omega)
   rw [hr] at this
   cases this
theorem wpAny_inv {pt : List (List Nat)} (hchk : anyChk ops pt ds = true) (hall : allWritten ops ds = true) (hs : StepsOk P ops Q FL J t0 df ds ops.toList pt)
  (hend : ∀ u w, J w → Facts FL u w ds → Q .normal ⟨fillL u ds t0, df⟩ w) :
  ∀ (fuel : Nat) (listed : Array Bool) (a : Act) (w : World), ((List.range ops.size).filter fun j => !listed.getD j true).length ≤ fuel → Inv ops FL J t0 df ds pt listed a w → wpAny P .any ops Q fuel listed a w := by
 have hfin : ∀ (listed : Array Bool) (a : Act) (w : World), Inv ops FL J t0 df ds pt listed a w → Region.ready .any ops listed = [] → Q .normal a w := by
  intro listed a w hI hr
  obtain ⟨u, rfl, hfac⟩ := hI.fr
  refine hend u w hI.j (facts_mk fun d hd => hfac d ?_)
  unfold allWritten at hall
  rw [List.all_eq_true] at hall
  have h1 := hall d hd
  rw [Array.any_eq_true] at h1
  obtain ⟨k, hk, h2⟩ := h1
  exact ⟨k, ops[k], ready_nil_all hchk hI.sz hr (k + 1) k (by omega) hk, by simp [hk], by simpa using h2⟩
 intro fuel
 induction fuel with
 | zero =>
  intro listed a w hc hI
  have hr : Region.ready .any ops listed = [] := by
   rw [List.eq_nil_iff_forall_not_mem]
   intro j hj
   obtain ⟨h0, o, ho, -⟩ := mem_ready.1 hj
   have hlt : j < ops.size := (Array.getElem?_eq_some_iff.1 ho).1
   have hm : j ∈ (List.range ops.size).filter fun j => !listed.getD j true := by
    rw [List.mem_filter]
    exact ⟨List.mem_range.2 hlt, by rw [h0]; rfl⟩
   have := List.length_pos_of_mem hm
   omega
  exact ⟨hr, hfin _ _ _ hI hr⟩
 | succ fuel ih =>
  intro listed a w hc hI
  refine ⟨fun hr => hfin _ _ _ hI hr, fun i hi => ?_⟩
  obtain ⟨h0, o, ho, -⟩ := mem_ready.1 hi
  have hlt : i < ops.size := (Array.getElem?_eq_some_iff.1 ho).1
  refine wpOp_mono (fun a' w' hI' => ih _ a' w' ?_ hI') (inv_step hchk hs hI hi)
  have := filter_less (p := fun j => !listed.getD j true) (q := fun j => !(listed.setIfInBounds i true).getD j true) (i := i) (by simp only [h0]; rfl) (by
   have hil : i < listed.size := by rw [hI.sz]; exact hlt
   simp [hil]) (fun j hj => by
   by_cases hij : i = j
   ·subst hij
    exfalso
    have hil : i < listed.size := by rw [hI.sz]; exact hlt
    simp [hil] at hj
   ·rw [getD_set_ne true hij] at hj; exact hj) (List.range ops.size) (List.mem_range.2 hlt)
  omega
def StepFr (P : Program) (ops : Array Oper) (Q : Exit → Act → World → Prop) (FL : List (Nat × Fact)) (J : World → Prop) (fr : (Nat → Value) → Array Value) (df : List Deferred) (o : Oper) (need : List Nat) : Prop :=
 ∀ (u : Nat → Value) (w : World), J w → Facts FL u w need → ∀ K : Act → World → Prop, Shut (∀ v w', J w' → Below w.heap.size w w' → factOf FL o.dst v w' → K ((⟨fr u, df⟩ : Act).put o.dst v) w') →
  if Region.wanted o (yielded ops (fr u)) = true then Oper.wp P o ⟨fr u, df⟩ w K Q else K ((⟨fr u, df⟩ : Act).put o.dst undef) w
def StepsFr (P : Program) (ops : Array Oper) (Q : Exit → Act → World → Prop) (FL : List (Nat × Fact)) (J : World → Prop) (fr : (Nat → Value) → Array Value) (df : List Deferred) : List Oper → List (List Nat) → Prop
 | [], _ => True
 | o :: rest, [] => StepFr P ops Q FL J fr df o [] ∧ StepsFr P ops Q FL J fr df rest []
 | o :: rest, n :: ns => StepFr P ops Q FL J fr df o n ∧ StepsFr P ops Q FL J fr df rest ns
theorem StepsFr.nil {fr : (Nat → Value) → Array Value} {pt : List (List Nat)} : StepsFr P ops Q FL J fr df [] pt := by cases pt <;> trivial
theorem StepsFr.cons {fr : (Nat → Value) → Array Value} {o : Oper} {rest : List Oper} {n : List Nat} {ns : List (List Nat)} (h : StepFr P ops Q FL J fr df o n) (hs : StepsFr P ops Q FL J fr df rest ns) : StepsFr P ops Q FL J fr df (o :: rest) (n :: ns) := ⟨h, hs⟩
theorem stepsFr_ok {fr : (Nat → Value) → Array Value} (hfr : ∀ u, fillL u ds t0 = fr u) : ∀ (l : List Oper) (pt : List (List Nat)), StepsFr P ops Q FL J fr df l pt → StepsOk P ops Q FL J t0 df ds l pt := by
 have h1 : ∀ o n, StepFr P ops Q FL J fr df o n → StepOk P ops Q FL J t0 df ds o n := by
  intro o n h u w hJ hF K hK
  rw [hfr] at hK ⊢
  exact h u w hJ hF K hK
 intro l
 induction l with
 | nil => intro pt _; cases pt <;> trivial
 | cons o l ih =>
  intro pt h
  cases pt with
  | nil => exact ⟨h1 _ _ h.1, ih _ h.2⟩
  | cons n ns => exact ⟨h1 _ _ h.1, ih _ h.2⟩
theorem region_facts {id : Nat} {w : World} {opl : List Oper} (FL : List (Nat × Fact)) (J : World → Prop) (pt : List (List Nat)) {fr : (Nat → Value) → Array Value} (hfr : ∀ u, fillL u (temps FL) t0 = fr u)
  (hm : P.follows .mixedOrders = true) (hchk : anyChk opl.toArray pt (temps FL) = true) (hall : allWritten opl.toArray (temps FL) = true) (hJ : J w.drew)
  (hs : StepsFr P opl.toArray Q FL J fr df opl pt)
  (hend : ∀ u w, J w → Facts FL u w (temps FL) → Q .normal ⟨fr u, df⟩ w) : (Code.region id opl.toArray true).wp P Q ⟨t0, df⟩ w := by
 refine wp_region_any hm (wpAny_inv (ds := temps FL) (t0 := t0) (df := df) hchk hall (stepsFr_ok hfr _ _ hs) (fun u w hj hf => by rw [hfr]; exact hend u w hj hf) opl.toArray.size _ _ _ ?_ ⟨hJ, ⟨fun d => t0.getD d undef, by rw [fillL_self], ?_⟩, ?_, by simp⟩)
 ·exact Nat.le_trans (List.length_filter_le _ _) (by simp)
 ·rintro d ⟨j, o', h1, -, -⟩
  rw [none_listed] at h1; cases h1
 ·intro i hi
  rw [none_listed] at hi; cases hi
end
open Go.RowKit
theorem zR_mul (n m : Bool) {L M R : List Nat} (h : val4 R = val4 L * val4 M) (h0 : R.length = 0 → val4 R = 0) : zR ((n != m) && decide (0 < R.length)) R = zR n L * zR m M := by
 have hc : ((val4 R : Nat) : Int) = (val4 L : Int) * (val4 M : Int) := by rw [h]; simp
 unfold zR
 generalize (val4 L : Int) = x at *
 generalize (val4 M : Int) = y at *
 rcases Nat.eq_zero_or_pos R.length with h1 | h1
 ·have h2 := h0 h1
  rw [h2] at hc ⊢
  have e : (decide (0 < R.length)) = false := by rw [decide_eq_false_iff_not]; omega
  rw [e, Bool.and_false]
  cases n <;> cases m <;> simp <;> grind
 ·have e : (decide (0 < R.length)) = true := by rw [decide_eq_true_iff]; omega
  rw [e, Bool.and_true, hc]
  cases n <;> cases m <;> simp <;> grind
set_option maxRecDepth 20000 in
set_option maxHeartbeats 3200000 in
theorem rmulI_any (n m : Bool) (A A' : Option Addr) (c c' : Nat) (L M : List Nat) (w : World) (hl : L.length ≤ 500000) (hml : M.length ≤ 500000)
  (hL : RefR w w.heap.size n A c L) (hM : RefR w w.heap.size m A' c' M) :
  Calls Tryz.prog 70 #[.agg #[.bool n, .slice A L.length c], .agg #[.bool m, .slice A' M.length c']] w fun e w' => ∃ k A c R, e = .returned (.agg #[.bool k, .slice A R.length c]) ∧
   RefR w' w'.heap.size k A c R ∧ zR k R = zR n L * zR m M ∧ R.length ≤ L.length + M.length ∧ Below w.heap.size w w' := by
 have hM2 := fun W h1 h2 => rmul2 A A' c c' L M W hl hml hL.lim hM.lim h1 h2
 have HM2 := Lib.hid hM2
 clear hM2
 generalize hl' : L.length = l at *
 generalize hm' : M.length = l2 at *
 have HLL := Lib.hid hl'
 have HML := Lib.hid hm'
 clear hl' hm'
 go_enter Tryz.func70, Tryz.ntmps70
 go_wp2
 have hne1 : ¬ w.heap.size = w.heap.size + 1 + 1 := by omega
 have hne2 : ¬ w.heap.size + 1 + 1 = w.heap.size := by omega
 go_region_held3 (fun w' => w'.cell? ⟨w.heap.size, 0, none⟩ = some (.bool n) ∧ w'.cell? ⟨w.heap.size, 1, none⟩ = some (.slice A l c) ∧
   w'.cell? ⟨w.heap.size + 1, 0, none⟩ = some (.bool m) ∧ w'.cell? ⟨w.heap.size + 1, 1, none⟩ = some (.slice A' l2 c')) (go_keep)
  (first
   | (go_at_call 118; refine (HM2.out _ (hL.row.up (below_drew (below_a3 _ _ _ _))) (hM.row.up (below_drew (below_a3 _ _ _ _)))).mono ?_; rintro e w1 ⟨g, c1, R, rfl, hr1, hlim1, htop1, hv1, hl1, hb1, _⟩; have HB1 := Lib.hid (three (below_undrew hb1)).2.2.2.2.2.2.2.2.2; have X := three (below_undrew hb1); have hq1 := X.1; have hq2 := X.2.1; have hq3 := X.2.2.1; have hq4 := X.2.2.2.1; have hq5 := X.2.2.2.2.1; have hq6 := X.2.2.2.2.2.1; have hq7 := X.2.2.2.2.2.2.1; have hq8 := X.2.2.2.2.2.2.2.1; have hq9 := X.2.2.2.2.2.2.2.2.1; clear X hb1)
   | (go_at_call 109; refine (rsigned_trim _ _ _ R _ hl1 htop1 hr1).mono ?_; rintro e w2 ⟨rfl, hb2⟩; have HB2 := Lib.hid (below_then HB1.out hb2 hq9); have HR2 := Lib.hid (hr1.below hb2); have hs2 := hb2.size; clear hq1 hq2 hq3 hq4 hq5 hq6 hq7 hq8 hr1 hb2; have X := three' HB2.out; have hq1 := X.1; have hq2 := X.2.1; have hq3 := X.2.2.1; have hq4 := X.2.2.2.1; have hq5 := X.2.2.2.2.1; have hq6 := X.2.2.2.2.2.1; have hq7 := X.2.2.2.2.2.2.1; have hq8 := X.2.2.2.2.2.2.2.1; clear X))
 all_goals
  go_wp2
  have hbw : Below w.heap.size w w2 := (below_a3 w _ _ _).trans (Below.less HB2.out (by omega))
  refine bodyPost_ret (v := .agg #[.bool (!(n == m) && decide (0 < R.length)), .slice (some ⟨g, 0, none⟩) R.length c1]) (by simp [results, Tryz.results70, go_sem, hq5, hq6]) rfl
   ⟨_, _, _, R, rfl, ?_, zR_mul n m hv1 val4_nil, hl1, (hbw.setCell (by simp; omega) _).setCell (by simp; omega) _⟩
  rw [setCell_size, setCell_size]
  refine ⟨(HR2.out.more hs2).box3 HB2.out (fun _ => by simp) (fun _ => by simp) _ _, hlim1, htop1, fun hk hR => ?_⟩
  rw [hR] at hk
  simp at hk
theorem ref_len {w w' : World} {B B' : Nat} {n m : Bool} {A A' : Option Addr} {c c' : Nat} {L M : List Nat} (hL : RefR w B n A c L) (hM : RefR w' B' m A' c' M) (h : val4 M ≤ val4 L) : M.length ≤ L.length := by
 rcases Nat.lt_or_ge L.length M.length with hlt | hge
 ·have := canon_lt4 hL.lim hM.top hlt; omega
 ·exact hge
set_option maxHeartbeats 3200000
set_option maxRecDepth 20000
theorem addZR (n : Bool) {L M R : List Nat} (h : val4 R = val4 L + val4 M) (h0 : R.length = 0 → val4 R = 0) : zR (n && decide (0 < R.length)) R = zR n L + zR n M := by
 unfold zR
 rcases Nat.eq_zero_or_pos R.length with h1 | h1
 ·have h2 := h0 h1
  have e : (decide (0 < R.length)) = false := by rw [decide_eq_false_iff_not]; omega
  rw [e, Bool.and_false]
  cases n <;> simp <;> omega
 ·have e : (decide (0 < R.length)) = true := by rw [decide_eq_true_iff]; omega
  rw [e, Bool.and_true]
  cases n <;> simp <;> omega
theorem subZR (n : Bool) {L M R : List Nat} (h : val4 R + val4 M = val4 L) (h0 : R.length = 0 → val4 R = 0) : zR (n && decide (0 < R.length)) R = zR n L + zR (!n) M := by
 unfold zR
 rcases Nat.eq_zero_or_pos R.length with h1 | h1
 ·have h2 := h0 h1
  have e : (decide (0 < R.length)) = false := by rw [decide_eq_false_iff_not]; omega
  rw [e, Bool.and_false]
  cases n <;> simp <;> omega
 ·have e : (decide (0 < R.length)) = true := by rw [decide_eq_true_iff]; omega
  rw [e, Bool.and_true]
  cases n <;> simp <;> omega
theorem radd_same (n : Bool) (A A' : Option Addr) (c c' : Nat) (L M : List Nat) (w : World) (hl : L.length ≤ 500000) (hml : M.length ≤ 500000)
  (hL : RefR w w.heap.size n A c L) (hM : RefR w w.heap.size n A' c' M) :
  Calls Tryz.prog 69 #[.agg #[.bool n, .slice A L.length c], .agg #[.bool n, .slice A' M.length c']] w fun e w' => ∃ k A c R, e = .returned (.agg #[.bool k, .slice A (List.length R) c]) ∧
   RefR w' w'.heap.size k A c R ∧ zR k R = zR n L + zR n M ∧ List.length R ≤ L.length + M.length + 1 ∧ Below w.heap.size w w' := by
 have hM2 := fun W h1 h2 => radd2 A A' c c' L M W hl hml hL.lim hM.lim h1 h2
 have HM2 := Lib.hid hM2
 clear hM2
 generalize hl' : L.length = l at *
 generalize hm' : M.length = l2 at *
 have HLL := Lib.hid hl'
 have HML := Lib.hid hm'
 clear hl' hm'
 have hbb : (n == n) = true := by simp
 go_enter Tryz.func69, Tryz.ntmps69
 go_wp2
 have hne1 : ¬ w.heap.size = w.heap.size + 1 + 1 := by omega
 have hne2 : ¬ w.heap.size + 1 + 1 = w.heap.size := by omega
 have HUP := Lib.hid (below_drew (below_a3 w (.cells #[.bool n, .slice A l c] 33) (.cells #[.bool n, .slice A' l2 c'] 33) (.cells #[.bool false, .slice none 0 0] 33)))
 go_region_held3 (fun w' => w'.cell? ⟨w.heap.size, 0, none⟩ = some (.bool n) ∧ w'.cell? ⟨w.heap.size, 1, none⟩ = some (.slice A l c) ∧
   w'.cell? ⟨w.heap.size + 1, 0, none⟩ = some (.bool n) ∧ w'.cell? ⟨w.heap.size + 1, 1, none⟩ = some (.slice A' l2 c')) (go_keep)
  (first
   | (go_at_call 115; (with_reducible refine (HM2.out _ (hL.row.up HUP.out) (hM.row.up HUP.out)).mono ?_); rintro e w1 ⟨A2, c1, R, rfl, hr1, hlim1, hv1, hl1, hb1⟩; have HB1 := Lib.hid (three (below_undrew hb1)).2.2.2.2.2.2.2.2.2; have X := three (below_undrew hb1); have hq1 := X.1; have hq2 := X.2.1; have hq3 := X.2.2.1; have hq4 := X.2.2.2.1; have hq9 := X.2.2.2.2.2.2.2.2.1; clear X hb1)
   | (go_at_call 109; refine (rsigned_pack _ _ _ R _ hl1 (by omega) hlim1 hr1).mono ?_; rintro e w2 ⟨T, rfl, hr2, hlim2, htop2, hv2, hl2, hb2⟩; have HB2 := Lib.hid (below_then HB1.out hb2 hq9); have HR2 := Lib.hid hr2; have HV2 := Lib.hid hv2; clear hq1 hq2 hq3 hq4 hr1 hr2 hv2 hb2; have X := three' HB2.out; have hq1 := X.1; have hq2 := X.2.1; have hq3 := X.2.2.1; have hq4 := X.2.2.2.1; have hq5 := X.2.2.2.2.1; have hq6 := X.2.2.2.2.2.1; have hq7 := X.2.2.2.2.2.2.1; have hq8 := X.2.2.2.2.2.2.2.1; clear X))
 all_goals
  go_wp2
  have hbw : Below w.heap.size w w2 := (below_a3 w _ _ _).trans (Below.less HB2.out (by omega))
  refine bodyPost_ret (v := .agg #[.bool (n && decide (0 < List.length T)), .slice A2 (List.length T) c1]) (by simp [results, Tryz.results69, go_sem, hq5, hq6]) rfl
   ⟨_, _, _, T, rfl, ?_, addZR n (by rw [HV2.out]; exact hv1) val4_nil, by omega, (hbw.setCell (by simp; omega) _).setCell (by simp; omega) _⟩
  rw [setCell_size, setCell_size]
  refine ⟨HR2.out.box3 HB2.out (fun _ => by simp) (fun _ => by simp) _ _, hlim2, htop2, fun hk hR => ?_⟩
  rw [hR] at hk
  simp at hk
theorem radd_ge (n : Bool) (A A' : Option Addr) (c c' : Nat) (L M : List Nat) (w : World) (hl : L.length ≤ 500000) (hml : M.length ≤ 500000) (hle : val4 M ≤ val4 L)
  (hL : RefR w w.heap.size n A c L) (hM : RefR w w.heap.size (!n) A' c' M) :
  Calls Tryz.prog 69 #[.agg #[.bool n, .slice A L.length c], .agg #[.bool (!n), .slice A' M.length c']] w fun e w' => ∃ k A c R, e = .returned (.agg #[.bool k, .slice A (List.length R) c]) ∧
   RefR w' w'.heap.size k A c R ∧ zR k R = zR n L + zR (!n) M ∧ List.length R ≤ L.length + M.length + 1 ∧ Below w.heap.size w w' := by
 have hM2 := fun W h1 h2 => rsub2 A A' c c' L M W hl (ref_len hL hM hle) hL.lim hM.lim hle h1 h2
 have HM2 := Lib.hid hM2
 have hC := fun W h1 h2 => rcompare_any A A' c c' L M W (by omega) (by omega) h1 h2
 have hz : cmpL L M = cmpZ (val4 L) (val4 M) := cmpL_val4 hL hM
 have hz2 : 0 ≤ cmpL L M := by rw [hz]; exact cmp_ge hle
 generalize cmpL L M = z at *
 have HC := Lib.hid hC
 clear hC hz hle hM2
 generalize hl' : L.length = l at *
 generalize hm' : M.length = l2 at *
 have HLL := Lib.hid hl'
 have HML := Lib.hid hm'
 clear hl' hm'
 have hbb : (n == !n) = false := by cases n <;> rfl
 go_enter Tryz.func69, Tryz.ntmps69
 go_wp2_with fail
 refine (HC.out _ (hL.row.up (below_a3 _ _ _ _)) (hM.row.up (below_a3 _ _ _ _))).mono ?_
 rintro e w9 ⟨rfl, nq, rfl⟩
 go_wp2_with fail
 have hne1 : ¬ w.heap.size = w.heap.size + 1 + 1 := by omega
 have hne2 : ¬ w.heap.size + 1 + 1 = w.heap.size := by omega
 have HUP := Lib.hid (below_drewN (below_a3 w (.cells #[.bool n, .slice A l c] 33) (.cells #[.bool (!n), .slice A' l2 c'] 33) (.cells #[.bool false, .slice none 0 0] 33)) (nq + 1))
 go_region_held3 (fun w' => w'.cell? ⟨w.heap.size, 0, none⟩ = some (.bool n) ∧ w'.cell? ⟨w.heap.size, 1, none⟩ = some (.slice A l c) ∧
   w'.cell? ⟨w.heap.size + 1, 0, none⟩ = some (.bool (!n)) ∧ w'.cell? ⟨w.heap.size + 1, 1, none⟩ = some (.slice A' l2 c')) (go_keep)
  (first
   | (go_at_call 117; (with_reducible refine (HM2.out _ (hL.row.up HUP.out) (hM.row.up HUP.out)).mono ?_); rintro e w1 ⟨A2, c1, R, rfl, hr1, hlim1, hv1, hl1, hb1⟩; have HB1 := Lib.hid (three (below_undrewN hb1)).2.2.2.2.2.2.2.2.2; have X := three (below_undrewN hb1); have hq1 := X.1; have hq2 := X.2.1; have hq3 := X.2.2.1; have hq4 := X.2.2.2.1; have hq9 := X.2.2.2.2.2.2.2.2.1; clear X hb1)
   | (go_at_call 109; refine (rsigned_pack _ _ _ R _ hl1 (by omega) hlim1 hr1).mono ?_; rintro e w2 ⟨T, rfl, hr2, hlim2, htop2, hv2, hl2, hb2⟩; have HB2 := Lib.hid (below_then HB1.out hb2 hq9); have HR2 := Lib.hid hr2; have HV2 := Lib.hid hv2; clear hq1 hq2 hq3 hq4 hr1 hr2 hv2 hb2; have X := three' HB2.out; have hq1 := X.1; have hq2 := X.2.1; have hq3 := X.2.2.1; have hq4 := X.2.2.2.1; have hq5 := X.2.2.2.2.1; have hq6 := X.2.2.2.2.2.1; have hq7 := X.2.2.2.2.2.2.1; have hq8 := X.2.2.2.2.2.2.2.1; clear X))
 all_goals
  go_wp2
  have hbw : Below w.heap.size w w2 := (below_a3 w _ _ _).trans (Below.less HB2.out (by omega))
  refine bodyPost_ret (v := .agg #[.bool (n && decide (0 < List.length T)), .slice A2 (List.length T) c1]) (by simp [results, Tryz.results69, go_sem, hq5, hq6]) rfl
   ⟨_, _, _, T, rfl, ?_, subZR n (by rw [HV2.out]; exact hv1) val4_nil, by omega, (hbw.setCell (by simp; omega) _).setCell (by simp; omega) _⟩
  rw [setCell_size, setCell_size]
  refine ⟨HR2.out.box3 HB2.out (fun _ => by simp) (fun _ => by simp) _ _, hlim2, htop2, fun hk hR => ?_⟩
  rw [hR] at hk
  simp at hk
theorem radd_lt (n : Bool) (A A' : Option Addr) (c c' : Nat) (L M : List Nat) (w : World) (hl : L.length ≤ 500000) (hml : M.length ≤ 500000) (hlt : val4 L < val4 M)
  (hL : RefR w w.heap.size n A c L) (hM : RefR w w.heap.size (!n) A' c' M) :
  Calls Tryz.prog 69 #[.agg #[.bool n, .slice A L.length c], .agg #[.bool (!n), .slice A' M.length c']] w fun e w' => ∃ k A c R, e = .returned (.agg #[.bool k, .slice A (List.length R) c]) ∧
   RefR w' w'.heap.size k A c R ∧ zR k R = zR n L + zR (!n) M ∧ List.length R ≤ L.length + M.length + 1 ∧ Below w.heap.size w w' := by
 have hM2 := fun W h1 h2 => rsub2 A' A c' c M L W hml (ref_len hM hL (by omega)) hM.lim hL.lim (by omega) h1 h2
 have HM2 := Lib.hid hM2
 have hC := fun W h1 h2 => rcompare_any A A' c c' L M W (by omega) (by omega) h1 h2
 have hz : cmpL L M = cmpZ (val4 L) (val4 M) := cmpL_val4 hL hM
 have hz2 : cmpL L M = -1 := by rw [hz]; exact cmp_lt hlt
 rw [hz2] at hC
 have HC := Lib.hid hC
 clear hC hz hz2 hlt hM2
 generalize hl' : L.length = l at *
 generalize hm' : M.length = l2 at *
 have HLL := Lib.hid hl'
 have HML := Lib.hid hm'
 clear hl' hm'
 have hbb : (n == !n) = false := by cases n <;> rfl
 go_enter Tryz.func69, Tryz.ntmps69
 go_wp2_with fail
 refine (HC.out _ (hL.row.up (below_a3 _ _ _ _)) (hM.row.up (below_a3 _ _ _ _))).mono ?_
 rintro e w9 ⟨rfl, nq, rfl⟩
 go_wp2_with fail
 have hne1 : ¬ w.heap.size = w.heap.size + 1 + 1 := by omega
 have hne2 : ¬ w.heap.size + 1 + 1 = w.heap.size := by omega
 have HUP := Lib.hid (below_drewN (below_a3 w (.cells #[.bool n, .slice A l c] 33) (.cells #[.bool (!n), .slice A' l2 c'] 33) (.cells #[.bool false, .slice none 0 0] 33)) (nq + 1))
 go_region_held3 (fun w' => w'.cell? ⟨w.heap.size, 0, none⟩ = some (.bool n) ∧ w'.cell? ⟨w.heap.size, 1, none⟩ = some (.slice A l c) ∧
   w'.cell? ⟨w.heap.size + 1, 0, none⟩ = some (.bool (!n)) ∧ w'.cell? ⟨w.heap.size + 1, 1, none⟩ = some (.slice A' l2 c')) (go_keep)
  (first
   | (go_at_call 117; (with_reducible refine (HM2.out _ (hM.row.up HUP.out) (hL.row.up HUP.out)).mono ?_); rintro e w1 ⟨A2, c1, R, rfl, hr1, hlim1, hv1, hl1, hb1⟩; have HB1 := Lib.hid (three (below_undrewN hb1)).2.2.2.2.2.2.2.2.2; have X := three (below_undrewN hb1); have hq1 := X.1; have hq2 := X.2.1; have hq3 := X.2.2.1; have hq4 := X.2.2.2.1; have hq9 := X.2.2.2.2.2.2.2.2.1; clear X hb1)
   | (go_at_call 109; refine (rsigned_pack _ _ _ R _ hl1 (by omega) hlim1 hr1).mono ?_; rintro e w2 ⟨T, rfl, hr2, hlim2, htop2, hv2, hl2, hb2⟩; have HB2 := Lib.hid (below_then HB1.out hb2 hq9); have HR2 := Lib.hid hr2; have HV2 := Lib.hid hv2; clear hq1 hq2 hq3 hq4 hr1 hr2 hv2 hb2; have X := three' HB2.out; have hq1 := X.1; have hq2 := X.2.1; have hq3 := X.2.2.1; have hq4 := X.2.2.2.1; have hq5 := X.2.2.2.2.1; have hq6 := X.2.2.2.2.2.1; have hq7 := X.2.2.2.2.2.2.1; have hq8 := X.2.2.2.2.2.2.2.1; clear X))
 all_goals
  go_wp2
  have hbw : Below w.heap.size w w2 := (below_a3 w _ _ _).trans (Below.less HB2.out (by omega))
  refine bodyPost_ret (v := .agg #[.bool ((!n) && decide (0 < List.length T)), .slice A2 (List.length T) c1]) (by simp [results, Tryz.results69, go_sem, hq5, hq6]) rfl
   ⟨_, _, _, T, rfl, ?_, ((subZR (!n) (L := M) (M := L) (R := T) (by rw [HV2.out]; exact hv1) val4_nil).trans (by rw [Bool.not_not, Int.add_comm])), by omega, (hbw.setCell (by simp; omega) _).setCell (by simp; omega) _⟩
  rw [setCell_size, setCell_size]
  refine ⟨HR2.out.box3 HB2.out (fun _ => by simp) (fun _ => by simp) _ _, hlim2, htop2, fun hk hR => ?_⟩
  rw [hR] at hk
  simp at hk
theorem raddI_any (n m : Bool) (A A' : Option Addr) (c c' : Nat) (L M : List Nat) (w : World) (hl : L.length ≤ 500000) (hml : M.length ≤ 500000)
  (hL : RefR w w.heap.size n A c L) (hM : RefR w w.heap.size m A' c' M) :
  Calls Tryz.prog 69 #[.agg #[.bool n, .slice A L.length c], .agg #[.bool m, .slice A' M.length c']] w fun e w' => ∃ k A c R, e = .returned (.agg #[.bool k, .slice A (List.length R) c]) ∧
   RefR w' w'.heap.size k A c R ∧ zR k R = zR n L + zR m M ∧ List.length R ≤ L.length + M.length + 1 ∧ Below w.heap.size w w' := by
 by_cases h : n = m
 ·subst h
  exact radd_same n A A' c c' L M w hl hml hL hM
 ·obtain rfl : m = !n := by cases n <;> cases m <;> first | rfl | exact absurd rfl h
  rcases Nat.lt_or_ge (val4 L) (val4 M) with h1 | h1
  ·exact radd_lt n A A' c c' L M w hl hml h1 hL hM
  ·exact radd_ge n A A' c c' L M w hl hml h1 hL hM
set_option maxHeartbeats 3200000
set_option maxRecDepth 20000
theorem rsubI_any (n m : Bool) (A A' : Option Addr) (c c' : Nat) (L M : List Nat) (w : World) (hl : L.length ≤ 500000) (hml : M.length ≤ 500000)
  (hL : RefR w w.heap.size n A c L) (hM : RefR w w.heap.size m A' c' M) :
  Calls Tryz.prog 161 #[.agg #[.bool n, .slice A L.length c], .agg #[.bool m, .slice A' M.length c']] w fun e w' => ∃ k A c R, e = .returned (.agg #[.bool k, .slice A R.length c]) ∧
   RefR w' w'.heap.size k A c R ∧ zR k R = zR n L - zR m M ∧ R.length ≤ L.length + M.length + 1 ∧ Below w.heap.size w w' := by
 have hN := fun W (h : RefR W W.heap.size m A' c' M) => rneg_any m A' c' M W hml h
 have HN := Lib.hid hN
 have hAd := fun (k : Bool) (A2 : Option Addr) (c2 : Nat) W (h1 : RefR W W.heap.size n A c L) (h2 : RefR W W.heap.size k A2 c2 M) => raddI_any n k A A2 c c2 L M W hl hml h1 h2
 have HAd := Lib.hid hAd
 clear hN hAd
 generalize hl' : L.length = l at *
 generalize hm' : M.length = l2 at *
 have HLL := Lib.hid hl'
 have HML := Lib.hid hm'
 clear hl' hm'
 go_enter Tryz.func161, Tryz.ntmps161
 go_wp2
 have hne1 : ¬ w.heap.size = w.heap.size + 1 + 1 := by omega
 have hne2 : ¬ w.heap.size + 1 + 1 = w.heap.size := by omega
 go_region_held3 (fun w' => w'.cell? ⟨w.heap.size, 0, none⟩ = some (.bool n) ∧ w'.cell? ⟨w.heap.size, 1, none⟩ = some (.slice A l c) ∧
   w'.cell? ⟨w.heap.size + 1, 0, none⟩ = some (.bool m) ∧ w'.cell? ⟨w.heap.size + 1, 1, none⟩ = some (.slice A' l2 c')) (go_keep)
  (first
   | (go_at_call 72; (with_reducible refine (HN.out _ (hM.up (below_drew (below_a3 _ _ _ _)))).mono ?_); rintro e w1 ⟨k, A2, c2, rfl, hi1, hz1, hb1⟩; have HZ1 := Lib.hid hz1; have HB1 := Lib.hid (three (below_undrew hb1)).2.2.2.2.2.2.2.2.2; have HW1 := Lib.hid ((below_drew (below_a3 w _ _ _)).trans (Below.less hb1 (below_drew (below_a3 w _ _ _)).size)); have X := three (below_undrew hb1); have hq1 := X.1; have hq2 := X.2.1; have hq3 := X.2.2.1; have hq4 := X.2.2.2.1; have hq9 := X.2.2.2.2.2.2.2.2.1; clear X hb1 hz1)
   | (go_at_call 69; (with_reducible refine (HAd.out _ _ _ _ (hL.up HW1.out) hi1).mono ?_); rintro e w2 ⟨k3, A3, c3, R, rfl, hi2, hz2, hl2, hb2⟩; have HZ2 := Lib.hid hz2; have HI2 := Lib.hid hi2; have HB2 := Lib.hid (below_then HB1.out hb2 hq9); clear hq1 hq2 hq3 hq4 hi1 hb2 hz2 hi2; have X := three' HB2.out; have hq1 := X.1; have hq2 := X.2.1; have hq3 := X.2.2.1; have hq4 := X.2.2.2.1; have hq5 := X.2.2.2.2.1; have hq6 := X.2.2.2.2.2.1; have hq7 := X.2.2.2.2.2.2.1; have hq8 := X.2.2.2.2.2.2.2.1; clear X))
 all_goals
  go_wp2
  have hbw : Below w.heap.size w w2 := (below_a3 w _ _ _).trans (Below.less HB2.out (by omega))
  refine bodyPost_ret (v := .agg #[.bool k3, .slice A3 R.length c3]) (by simp [results, Tryz.results161, go_sem, hq5, hq6]) rfl
   ⟨_, _, _, R, rfl, ?_, by rw [HZ2.out, HZ1.out]; rfl, hl2, (hbw.setCell (by simp; omega) _).setCell (by simp; omega) _⟩
  rw [setCell_size, setCell_size]
  exact ⟨HI2.out.row.box3 HB2.out (fun _ => by simp) (fun _ => by simp) _ _, HI2.out.lim, HI2.out.top, HI2.out.sgn⟩
theorem sgn_cmp {w : World} {B : Nat} {n : Bool} {A : Option Addr} {c : Nat} {L : List Nat} (h : RefR w B n A c L) : sgnI n L = cmpI (zR n L) 0 := by
 have h1 : 0 < L.length → 0 < val4 L := fun h0 => Nat.pos_of_ne_zero (ref_pos h h0)
 have h2 : L.length = 0 → val4 L = 0 := val4_nil
 have h3 : n = true → 0 < L.length := fun hn => List.length_pos_iff.2 (h.sgn hn)
 unfold sgnI cmpI zR
 cases n
 ·rcases Nat.eq_zero_or_pos L.length with h0 | h0
  ·have := h2 h0
   simp [h0, this]
  ·have := h1 h0
   have h4 : ¬ L.length = 0 := by omega
   simp only [Bool.false_eq_true, if_false, h4]
   rw [if_neg (by omega), if_neg (by omega)]
 ·have := h1 (h3 rfl)
  simp only [if_true]
  rw [if_pos (by omega)]
theorem cmp_diff (x y : Int) : cmpI (x - y) 0 = cmpI x y := by
 unfold cmpI
 by_cases h1 : x < y
 ·rw [if_pos (by omega), if_pos h1]
 ·rw [if_neg (by omega), if_neg h1]
  by_cases h2 : x = y
  ·rw [if_pos (by omega), if_pos h2]
  ·rw [if_neg (by omega), if_neg h2]
theorem rcmp_any (n m : Bool) (A A' : Option Addr) (c c' : Nat) (L M : List Nat) (w : World) (hl : L.length ≤ 500000) (hml : M.length ≤ 500000)
  (hL : RefR w w.heap.size n A c L) (hM : RefR w w.heap.size m A' c' M) :
  Calls Tryz.prog 129 #[.agg #[.bool n, .slice A L.length c], .agg #[.bool m, .slice A' M.length c']] w fun e w' => e = .returned (.int .i64 (cmpI (zR n L) (zR m M))) ∧ Below w.heap.size w w' := by
 have HS := Lib.hid (fun W h1 h2 => rsubI_any n m A A' c c' L M W hl hml h1 h2)
 generalize hl' : L.length = l at *
 generalize hm' : M.length = l2 at *
 have HLL := Lib.hid hl'
 have HML := Lib.hid hm'
 clear hl' hm'
 go_enter Tryz.func129, Tryz.ntmps129
 go_wp2_with fail
 refine (HS.out _ (hL.up (below_a2 _ _ _)) (hM.up (below_a2 _ _ _))).mono ?_
 rintro e w1 ⟨k, A2, c2, R, rfl, hi, hz, hl2, hb1⟩
 have HZ := Lib.hid hz
 have HB1 := Lib.hid ((below_a2 w _ _).trans (Below.less hb1 (below_a2 w _ _).size))
 have hsg := sgn_cmp hi
 rw [hz, cmp_diff] at hsg
 have HSG := Lib.hid hsg
 have hsn := hi.sgn
 clear hz hb1 hsg hi
 go_wp2_with fail
 refine (rsign_any k A2 c2 R w1 hsn).mono ?_
 rintro e w2 ⟨rfl, hb2⟩
 go_wp2_with fail
 go_ret
 exact ⟨ret_int HSG.out, HB1.out.trans (Below.less hb2 HB1.out.size)⟩
theorem PRef.up {z : Int} {n : Nat} {v : Value} {w w' : World} (h : PRef z n v w) (hb : Below w.heap.size w w') : PRef z n v w' := by
 obtain ⟨k, A, c, L, h1, h2, h3⟩ := h
 exact ⟨k, A, c, L, h1, h2.up hb, h3⟩
def Fact.ref (z : Int) (n : Nat) : Fact := ⟨PRef z n, fun _ _ _ hb h => h.up hb⟩
def Fact.is (x : Value) : Fact := ⟨fun v _ => v = x, fun _ _ _ _ h => h⟩
set_option maxHeartbeats 3200000
set_option maxRecDepth 20000
theorem rcmp_fact {x y : Int} {n m : Nat} {a b : Value} {w : World} (h1 : PRef x n a w) (h2 : PRef y m b w) (hn : n ≤ 500000) (hm : m ≤ 500000) :
  Calls Tryz.prog 129 #[a, b] w fun e w' => e = .returned (.int .i64 (cmpI x y)) ∧ Below w.heap.size w w' := by
 obtain ⟨k, A, c, L, rfl, i1, rfl, l1⟩ := h1
 obtain ⟨k', A', c', M, rfl, i2, rfl, l2⟩ := h2
 exact rcmp_any k k' A A' c c' L M w (by omega) (by omega) i1 i2
theorem rsigned_fact (k : Bool) (A : Option Addr) (c : Nat) (R : List Nat) {w : World} (hn : R.length ≤ 4000000) (hlim : Lim4 R) (hR : Row .i64 w w.heap.size A c R) :
  Calls Tryz.prog 109 #[.bool k, .slice A R.length c] w fun e w' => ∃ v, e = .returned v ∧ PRef (if k then -(val4 R : Int) else val4 R) R.length v w' ∧ Below w.heap.size w w' := by
 refine (rsigned_pack k A c R w (Nat.le_refl _) hn hlim hR).mono ?_
 rintro e w' ⟨T, rfl, hr, hl4, htop, hv, hl, hb⟩
 refine ⟨_, rfl, ⟨_, _, _, T, rfl, ⟨hr, hl4, htop, fun h0 h1 => ?_⟩, ?_, hl⟩, hb⟩
 ·rw [h1] at h0; simp at h0
 ·unfold zR
  rw [← hv]
  cases k
  ·simp
  ·rcases Nat.eq_zero_or_pos (List.length T) with h | h
   ·have : T = [] := List.eq_nil_of_length_eq_zero h
    subst this
    simp [val4, valB]
   ·simp [h]
def RSmallPost (z : Int) (e : Ending) : Prop := (inR z → e = .returned (.tuple #[.int .i64 z, .bool true])) ∧ (¬ inR z → e = .returned (.tuple #[.int .i64 0, .bool false]))
def vR (k : Bool) (L : List Nat) (j : Nat) : Int := if k then -(val4 (L.drop j) : Int) else val4 (L.drop j)
theorem vR_end (k : Bool) (L : List Nat) : vR k L L.length = 0 := by unfold vR; simp [val4, valB]
theorem vR_zero (k : Bool) (L : List Nat) : vR k L 0 = zR k L := by unfold vR zR; simp
theorem vR_step (k : Bool) (L : List Nat) (j : Nat) (h : j < L.length) : vR k L j = vR k L (j + 1) * 10000 + (if k then -(nth L j : Int) else nth L j) := by
 have h1 := valB_drop 10000 L j h
 unfold vR
 rw [show val4 (L.drop j) = _ from h1]
 unfold val4
 cases k <;> simp <;> omega
theorem val4_drop_le (L : List Nat) (i : Nat) : ∀ n, val4 (L.drop (i + n)) ≤ val4 (L.drop i) := by
 intro n
 induction n with
 | zero => exact Nat.le_refl _
 | succ n ih =>
  refine Nat.le_trans ?_ ih
  rcases Nat.lt_or_ge (i + n) L.length with h | h
  ·have h1 := valB_drop 10000 L (i + n) h
   show val4 (L.drop (i + n + 1)) ≤ val4 (L.drop (i + n))
   unfold val4
   omega
  ·rw [show L.drop (i + (n + 1)) = [] from List.drop_eq_nil_of_le (by omega)]
   simp [val4, valB]
theorem vR_in {k : Bool} {L : List Nat} {i j : Nat} (h : inR (vR k L i)) (hij : i ≤ j) : inR (vR k L j) := by
 have h1 := val4_drop_le L i (j - i)
 rw [show i + (j - i) = j by omega] at h1
 unfold inR vR minI maxI at *
 cases k <;> simp at * <;> omega
theorem rsigned_to {z : Int} (k : Bool) (A : Option Addr) (c : Nat) (R : List Nat) {w : World} (hn : R.length ≤ 5) (hz : (if k then -(val4 R : Int) else val4 R) = z) (hlim : Lim4 R) (hR : Row .i64 w w.heap.size A c R) :
  Calls Tryz.prog 109 #[.bool k, .slice A R.length c] w fun e w' => ∃ v, e = .returned v ∧ PRef z 5 v w' ∧ Below w.heap.size w w' := by
 subst hz
 refine (rsigned_fact k A c R (by omega) hlim hR).mono ?_
 rintro e w' ⟨v, he, ⟨q, B, d, T, h1, h2, h3, h4⟩, hb⟩
 exact ⟨v, he, ⟨q, B, d, T, h1, h2, h3, by omega⟩, hb⟩
theorem wrap64_sub (x y : Int) : wrap64 (wrap64 x + y) = wrap64 (x + y) := by unfold wrap64; omega
theorem wrap64_lo (x : Int) : -9223372036854775808 ≤ wrap64 x := by unfold wrap64; omega
theorem wrap64_hi (x : Int) : wrap64 x ≤ 9223372036854775807 := by unfold wrap64; omega
theorem wrap64_inR {x : Int} (h : inR x) : wrap64 x = x := by unfold inR minI maxI at h; unfold wrap64; omega
theorem cmp_ne {x y : Int} (h : x ≠ y) : (cmpI x y != 0) = true := by
 rw [bne_iff_ne]; unfold cmpI; (repeat' split) <;> omega
theorem cmp_eq {x y : Int} (h : x = y) : (cmpI x y != 0) = false := by rw [h]; unfold cmpI; simp
theorem inR_wrap (x : Int) : inR (wrap64 x) := ⟨wrap64_lo x, wrap64_hi x⟩
def rsFLS (k q : Bool) (L : List Nat) (m b o n c : Nat) (X cc : Int) (w0 : World) : List (Nat × Fact) := [(29, .is (.pointer (some ⟨w0.heap.size, 1, none⟩))), (30, .is (.slice (some ⟨b, o, none⟩) n c)), (31, .is (.int .i64 n)), (32, .is (.bool false)), (33, .is (.bool false)), (34, .is (.int .i64 X)), (35, .ref (X) 5), (36, .is (.pointer (some ⟨w0.heap.size, 0, none⟩))), (37, .is (.bool k)), (38, .is (.pointer (some ⟨w0.heap.size, 1, none⟩))), (39, .is (.slice (some ⟨b, o, none⟩) n c)), (40, .is (.int .i64 m)), (41, .is (.slice (some ⟨b, o + m, none⟩) (n - m) (c - m))), (42, .ref (vR k L m) 5), (43, .is (.int .i64 cc)), (44, .is (.bool q)), (45, .is (.bool q))]
theorem rsmall_short (k : Bool) (A : Option Addr) (c : Nat) (L : List Nat) (w0 : World) (hl : L.length ≤ 5) (hn0 : 0 < L.length) (hL : RefR w0 w0.heap.size k A c L) :
  Calls Tryz.prog 92 #[.agg #[.bool k, .slice A L.length c]] w0 fun e w' => RSmallPost (zR k L) e ∧ Below w0.heap.size w0 w' := by
 obtain ⟨b, o, rfl, hbB, hcs⟩ := hL.row.spot hn0
 have HCS := Lib.hid hcs
 have HLR := Lib.hid hL
 have hlc := hL.row.len
 have HV0 := Lib.hid (vR_zero k L)
 have HVE := Lib.hid (vR_end k L)
 clear hcs hL
 generalize hl' : L.length = n at *
 have HLL := Lib.hid hl'
 clear hl'
 go_enter Tryz.func92, Tryz.ntmps92
 go_wp2
 go_loopw [4, 5] (fun nv iv wr => ∃ j : Nat, j ≤ n ∧ iv = .int .i64 ((j : Int) - 1) ∧ nv = .int .i64 (vR k L j) ∧ inR (vR k L j) ∧ Below (w0.heap.size + 1) (w0.alloc (.cells #[.bool k, .slice (some ⟨b, o, none⟩) n c] 33)) wr) (fun _ iv _ => (intOf iv + 1).toNat)
 case atStart => exact ⟨n, Nat.le_refl _, rfl, by rw [HVE.out], by rw [HVE.out]; unfold inR minI maxI; omega, Below.refl _ _⟩
 case round =>
  obtain ⟨j, hj, rfl, rfl, hin, hb⟩ := hrel
  have hy := boxed2 hb
  have hy0 := hy.1
  have hy1 := hy.2
  have hd5 : decide (5 < (n : Int)) = false := by simp; omega
  rcases Nat.eq_zero_or_pos j with rfl | hpos
  ·rw [HV0.out] at hin ⊢
   go_wp2
   go_ret2
   refine ⟨⟨fun _ => rfl, fun h => absurd hin h⟩, ?_⟩
   exact (below_alloc_new _).trans (Below.less hb (by omega))
  ·obtain ⟨m, rfl⟩ : ∃ m, j = m + 1 := ⟨j - 1, by omega⟩
   have hcm : wr.cell? ⟨b, o + m, none⟩ = some (.int .i64 (nth L m)) := (hb.cell (by exact Nat.lt_succ_of_lt hbB)).trans ((below_alloc_new _).cell (by exact hbB) |>.trans (HCS.out m (by rw [HLL.out]; omega)))
   have hrowm : ∀ V : World, Below (w0.heap.size + 1) (w0.alloc (.cells #[.bool k, .slice (some ⟨b, o, none⟩) n c] 33)) V → Row .i64 V V.heap.size (some ⟨b, o + m, none⟩) (c - m) (L.drop m) := by
    intro V hV
    refine ⟨by rw [List.length_drop, HLL.out]; omega, fun _ => ⟨b, o + m, rfl, by have := hV.size; simp at this; omega, Cells.drop ?_ m⟩⟩
    exact HCS.out.keep fun q => (hV.cell (by exact Nat.lt_succ_of_lt hbB)).trans ((below_alloc_new _).cell (by exact hbB))
   cases k
   ·have hst := vR_step false L m (by rw [HLL.out]; omega)
    simp only [Bool.false_eq_true, if_false] at hst
    have hnl : nth L m < 10000 := nth_all HLR.out.lim (by omega) m
    go_upto_region 9 with (fail)
    have hmi : ((m + 1 : Nat) : Int) - 1 = m := by omega
    rw [hmi, wrap64_sub, ← hst]
    have hX1 := wrap64_lo (vR false L m)
    have hX2 := wrap64_hi (vR false L m)
    have hXi := fun h : inR (vR false L m) => wrap64_inR h
    have hXn := inR_wrap (vR false L m)
    generalize wrap64 (vR false L m) = X at *
    have hlt : w0.heap.size < wr.heap.size := by have := hb.size; simp at this; omega
    have hrow : Row .i64 wr wr.heap.size (some ⟨b, o + m, none⟩) (c - m) (L.drop m) := hrowm _ hb
    have HRW := Lib.hid hrow
    have hrs := fun (V : World) h => rsigned_to (z := vR false L m) false (some ⟨b, o + m, none⟩) (c - m) (L.drop m) (w := V) (by rw [List.length_drop, HLL.out]; omega) rfl (fun d hd => HLR.out.lim d (List.mem_of_mem_drop hd)) h
    have hdl : (L.drop m).length = n - m := by rw [List.length_drop, HLL.out]
    rw [hdl] at hrs
    have HSG := Lib.hid hrs
    have HST := Lib.hid hst
    have HXI := Lib.hid hXi
    have HXN := Lib.hid hXn
    have HB := Lib.hid hb
    have i1 : (0 : Int) ≤ (m : Int) := by omega
    have i2 : (m : Int) ≤ (n : Int) := by omega
    have i3 : (n : Int) ≤ (c : Int) := by omega
    have i4 : ¬ c = m := by omega
    have i5 : ¬ c - m = 0 := by omega
    clear hrow hrs hdl hst hXi hXn hb hcm hmi
    have hq1 := fun hr : inR (vR false L m) => cmp_eq (HXI.out hr)
    have hq2 := fun hr : ¬ inR (vR false L m) => cmp_ne (fun h : X = vR false L m => hr (h ▸ HXN.out))
    have hz' := fun hz : inR (zR false L) => (HV0.out ▸ hz : inR (vR false L 0))
    have hcm := fun (V : World) (a a' : Value) (h1 : PRef X 5 a V) (h2 : PRef (vR false L m) 5 a' V) => rcmp_fact h1 h2 (by omega) (by omega)
    generalize cmpI X (vR false L m) = cc at *
    obtain ⟨q, hcx⟩ : ∃ q, (cc != 0) = q := ⟨_, rfl⟩
    rw [hcx] at hq1 hq2
    have HQ1 := Lib.hid hq1
    have HQ2 := Lib.hid hq2
    have HZ := Lib.hid hz'
    clear hq1 hq2 hz'
    have HCM := Lib.hid hcm
    clear hcm
    refine region_facts (rsFLS false q L m b o n c X cc w0) (fun w' => Below wr.heap.size wr w') [[], [29], [30], [31], [32], [33], [33, 34], [33], [33, 36], [33], [33, 38], [33], [33, 39, 40], [33, 37, 41], [33, 35, 42], [33, 43], [33, 44]] (fun u => by simp only [rsFLS, temps, List.map_cons, List.map_nil, fillL, List.setIfInBounds_toArray, List.set_cons_zero, List.set_cons_succ]; rfl) (by kernel_rfl) (by kernel_rfl) (by kernel_rfl) (below_drew (Below.refl _ _)) ?_ ?_
    ·refine StepsFr.cons ?_ ?_
     ·intro u w hJ hF K hK
      clear hF
      go_simp
      exact hK.out _ _ hJ (Below.refl _ _) rfl
     refine StepsFr.cons ?_ ?_
     ·intro u w hJ hF K hK
      have h29 : u 29 = .pointer (some ⟨w0.heap.size, 1, none⟩) := facts_get hF 29 (by simp)
      clear hF
      simp only [h29] at hK ⊢
      clear h29
      have hf1 := (hJ.cell (p := ⟨w0.heap.size, 1, none⟩) hlt).trans hy1
      go_simp
      exact hK.out _ _ hJ (Below.refl _ _) rfl
     refine StepsFr.cons ?_ ?_
     ·intro u w hJ hF K hK
      have h30 : u 30 = .slice (some ⟨b, o, none⟩) n c := facts_get hF 30 (by simp)
      clear hF
      simp only [h30] at hK ⊢
      clear h30
      go_simp
      exact hK.out _ _ hJ (Below.refl _ _) rfl
     refine StepsFr.cons ?_ ?_
     ·intro u w hJ hF K hK
      have h31 : u 31 = .int .i64 n := facts_get hF 31 (by simp)
      clear hF
      simp only [h31] at hK ⊢
      clear h31
      go_simp
      exact hK.out _ _ hJ (Below.refl _ _) rfl
     refine StepsFr.cons ?_ ?_
     ·intro u w hJ hF K hK
      have h32 : u 32 = .bool false := facts_get hF 32 (by simp)
      clear hF
      simp only [h32] at hK ⊢
      clear h32
      go_simp
      exact hK.out _ _ hJ (Below.refl _ _) (rfl)
     refine StepsFr.cons ?_ ?_
     ·intro u w hJ hF K hK
      have h33 : u 33 = .bool false := facts_get hF 33 (by simp)
      clear hF
      simp only [h33] at hK ⊢
      clear h33
      go_simp
      exact hK.out _ _ hJ (Below.refl _ _) (rfl)
     refine StepsFr.cons ?_ ?_
     ·intro u w hJ hF K hK
      have h33 : u 33 = .bool false := facts_get hF 33 (by simp)
      have h34 : u 34 = .int .i64 X := facts_get hF 34 (by simp)
      clear hF
      simp only [h33, h34] at hK ⊢
      clear h33 h34
      go_simp
      refine (rof_fact hX1 hX2).mono ?_
      rintro e w' ⟨v, rfl, hv, hb⟩
      exact hK.out _ _ (below_then hJ hb hJ.size) hb (hv)
     refine StepsFr.cons ?_ ?_
     ·intro u w hJ hF K hK
      have h33 : u 33 = .bool false := facts_get hF 33 (by simp)
      clear hF
      simp only [h33] at hK ⊢
      clear h33
      go_simp
      exact hK.out _ _ hJ (Below.refl _ _) rfl
     refine StepsFr.cons ?_ ?_
     ·intro u w hJ hF K hK
      have h33 : u 33 = .bool false := facts_get hF 33 (by simp)
      have h36 : u 36 = .pointer (some ⟨w0.heap.size, 0, none⟩) := facts_get hF 36 (by simp)
      clear hF
      simp only [h33, h36] at hK ⊢
      clear h33 h36
      have hf0 := (hJ.cell (p := ⟨w0.heap.size, 0, none⟩) hlt).trans hy0
      go_simp
      exact hK.out _ _ hJ (Below.refl _ _) rfl
     refine StepsFr.cons ?_ ?_
     ·intro u w hJ hF K hK
      have h33 : u 33 = .bool false := facts_get hF 33 (by simp)
      clear hF
      simp only [h33] at hK ⊢
      clear h33
      go_simp
      exact hK.out _ _ hJ (Below.refl _ _) rfl
     refine StepsFr.cons ?_ ?_
     ·intro u w hJ hF K hK
      have h33 : u 33 = .bool false := facts_get hF 33 (by simp)
      have h38 : u 38 = .pointer (some ⟨w0.heap.size, 1, none⟩) := facts_get hF 38 (by simp)
      clear hF
      simp only [h33, h38] at hK ⊢
      clear h33 h38
      have hf1 := (hJ.cell (p := ⟨w0.heap.size, 1, none⟩) hlt).trans hy1
      go_simp
      exact hK.out _ _ hJ (Below.refl _ _) rfl
     refine StepsFr.cons ?_ ?_
     ·intro u w hJ hF K hK
      have h33 : u 33 = .bool false := facts_get hF 33 (by simp)
      clear hF
      simp only [h33] at hK ⊢
      clear h33
      go_simp
      exact hK.out _ _ hJ (Below.refl _ _) (rfl)
     refine StepsFr.cons ?_ ?_
     ·intro u w hJ hF K hK
      have h33 : u 33 = .bool false := facts_get hF 33 (by simp)
      have h39 : u 39 = .slice (some ⟨b, o, none⟩) n c := facts_get hF 39 (by simp)
      have h40 : u 40 = .int .i64 m := facts_get hF 40 (by simp)
      clear hF
      simp only [h33, h39, h40] at hK ⊢
      clear h33 h39 h40
      go_simp
      exact hK.out _ _ hJ (Below.refl _ _) rfl
     refine StepsFr.cons ?_ ?_
     ·intro u w hJ hF K hK
      have h33 : u 33 = .bool false := facts_get hF 33 (by simp)
      have h37 : u 37 = .bool false := facts_get hF 37 (by simp)
      have h41 : u 41 = .slice (some ⟨b, o + m, none⟩) (n - m) (c - m) := facts_get hF 41 (by simp)
      clear hF
      simp only [h33, h37, h41] at hK ⊢
      clear h33 h37 h41
      go_simp
      refine (HSG.out _ (HRW.out.up hJ)).mono ?_
      rintro e w' ⟨v, rfl, hv, hb⟩
      exact hK.out _ _ (below_then hJ hb hJ.size) hb (hv)
     refine StepsFr.cons ?_ ?_
     ·intro u w hJ hF K hK
      have h33 : u 33 = .bool false := facts_get hF 33 (by simp)
      have h35 : PRef (X) 5 (u 35) w := facts_get hF 35 (by simp)
      have h42 : PRef (vR false L m) 5 (u 42) w := facts_get hF 42 (by simp)
      clear hF
      simp only [h33] at hK ⊢
      clear h33
      go_simp
      refine (HCM.out _ _ _ h35 h42).mono ?_
      rintro e w' ⟨rfl, hb⟩
      exact hK.out _ _ (below_then hJ hb hJ.size) hb (rfl)
     refine StepsFr.cons ?_ ?_
     ·intro u w hJ hF K hK
      have h33 : u 33 = .bool false := facts_get hF 33 (by simp)
      have h43 : u 43 = .int .i64 cc := facts_get hF 43 (by simp)
      clear hF
      simp only [h33, h43] at hK ⊢
      clear h33 h43
      go_simp
      exact hK.out _ _ hJ (Below.refl _ _) rfl
     refine StepsFr.cons ?_ ?_
     ·intro u w hJ hF K hK
      have h33 : u 33 = .bool false := facts_get hF 33 (by simp)
      have h44 : u 44 = .bool q := facts_get hF 44 (by simp)
      clear hF
      simp only [h33, h44] at hK ⊢
      clear h33 h44
      go_simp
      exact hK.out _ _ hJ (Below.refl _ _) rfl
     exact StepsFr.nil
    ·intro u w9 hJ9 hF
     have h45 : u 45 = .bool q := facts_get hF 45 (by simp [rsFLS, temps])
     clear hF
     simp only [h45]
     by_cases hr : inR (vR false L m)
     ·obtain rfl : q = false := HQ1.out hr
      go_wp2
      go_roundw
      case rel => exact ⟨m, by omega, by go_num, by rw [HXI.out hr], hr, HB.out.trans (Below.less hJ9 hlt)⟩
      case measure => first | (simp [intOf]; done) | (simp [intOf]; omega)
     ·obtain rfl : q = true := HQ2.out hr
      go_wp2
      go_ret2
      refine ⟨⟨fun hz => absurd (vR_in (HZ.out hz) (Nat.zero_le m)) hr, fun _ => rfl⟩, ?_⟩
      exact (below_alloc_new _).trans (Below.less (HB.out.trans (Below.less hJ9 hlt)) (by omega))
   ·have hst := vR_step true L m (by rw [HLL.out]; omega)
    simp only [if_true] at hst
    have hnl : nth L m < 10000 := nth_all HLR.out.lim (by omega) m
    go_upto_region 9 with (fail)
    have hmi : ((m + 1 : Nat) : Int) - 1 = m := by omega
    rw [hmi, wrap64_sub, ← hst]
    have hX1 := wrap64_lo (vR true L m)
    have hX2 := wrap64_hi (vR true L m)
    have hXi := fun h : inR (vR true L m) => wrap64_inR h
    have hXn := inR_wrap (vR true L m)
    generalize wrap64 (vR true L m) = X at *
    have hlt : w0.heap.size < wr.heap.size := by have := hb.size; simp at this; omega
    have hrow : Row .i64 wr wr.heap.size (some ⟨b, o + m, none⟩) (c - m) (L.drop m) := hrowm _ hb
    have HRW := Lib.hid hrow
    have hrs := fun (V : World) h => rsigned_to (z := vR true L m) true (some ⟨b, o + m, none⟩) (c - m) (L.drop m) (w := V) (by rw [List.length_drop, HLL.out]; omega) rfl (fun d hd => HLR.out.lim d (List.mem_of_mem_drop hd)) h
    have hdl : (L.drop m).length = n - m := by rw [List.length_drop, HLL.out]
    rw [hdl] at hrs
    have HSG := Lib.hid hrs
    have HST := Lib.hid hst
    have HXI := Lib.hid hXi
    have HXN := Lib.hid hXn
    have HB := Lib.hid hb
    have i1 : (0 : Int) ≤ (m : Int) := by omega
    have i2 : (m : Int) ≤ (n : Int) := by omega
    have i3 : (n : Int) ≤ (c : Int) := by omega
    have i4 : ¬ c = m := by omega
    have i5 : ¬ c - m = 0 := by omega
    clear hrow hrs hdl hst hXi hXn hb hcm hmi
    have hq1 := fun hr : inR (vR true L m) => cmp_eq (HXI.out hr)
    have hq2 := fun hr : ¬ inR (vR true L m) => cmp_ne (fun h : X = vR true L m => hr (h ▸ HXN.out))
    have hz' := fun hz : inR (zR true L) => (HV0.out ▸ hz : inR (vR true L 0))
    have hcm := fun (V : World) (a a' : Value) (h1 : PRef X 5 a V) (h2 : PRef (vR true L m) 5 a' V) => rcmp_fact h1 h2 (by omega) (by omega)
    generalize cmpI X (vR true L m) = cc at *
    obtain ⟨q, hcx⟩ : ∃ q, (cc != 0) = q := ⟨_, rfl⟩
    rw [hcx] at hq1 hq2
    have HQ1 := Lib.hid hq1
    have HQ2 := Lib.hid hq2
    have HZ := Lib.hid hz'
    clear hq1 hq2 hz'
    have HCM := Lib.hid hcm
    clear hcm
    refine region_facts (rsFLS true q L m b o n c X cc w0) (fun w' => Below wr.heap.size wr w') [[], [29], [30], [31], [32], [33], [33, 34], [33], [33, 36], [33], [33, 38], [33], [33, 39, 40], [33, 37, 41], [33, 35, 42], [33, 43], [33, 44]] (fun u => by simp only [rsFLS, temps, List.map_cons, List.map_nil, fillL, List.setIfInBounds_toArray, List.set_cons_zero, List.set_cons_succ]; rfl) (by kernel_rfl) (by kernel_rfl) (by kernel_rfl) (below_drew (Below.refl _ _)) ?_ ?_
    ·refine StepsFr.cons ?_ ?_
     ·intro u w hJ hF K hK
      clear hF
      go_simp
      exact hK.out _ _ hJ (Below.refl _ _) rfl
     refine StepsFr.cons ?_ ?_
     ·intro u w hJ hF K hK
      have h29 : u 29 = .pointer (some ⟨w0.heap.size, 1, none⟩) := facts_get hF 29 (by simp)
      clear hF
      simp only [h29] at hK ⊢
      clear h29
      have hf1 := (hJ.cell (p := ⟨w0.heap.size, 1, none⟩) hlt).trans hy1
      go_simp
      exact hK.out _ _ hJ (Below.refl _ _) rfl
     refine StepsFr.cons ?_ ?_
     ·intro u w hJ hF K hK
      have h30 : u 30 = .slice (some ⟨b, o, none⟩) n c := facts_get hF 30 (by simp)
      clear hF
      simp only [h30] at hK ⊢
      clear h30
      go_simp
      exact hK.out _ _ hJ (Below.refl _ _) rfl
     refine StepsFr.cons ?_ ?_
     ·intro u w hJ hF K hK
      have h31 : u 31 = .int .i64 n := facts_get hF 31 (by simp)
      clear hF
      simp only [h31] at hK ⊢
      clear h31
      go_simp
      exact hK.out _ _ hJ (Below.refl _ _) rfl
     refine StepsFr.cons ?_ ?_
     ·intro u w hJ hF K hK
      have h32 : u 32 = .bool false := facts_get hF 32 (by simp)
      clear hF
      simp only [h32] at hK ⊢
      clear h32
      go_simp
      exact hK.out _ _ hJ (Below.refl _ _) (rfl)
     refine StepsFr.cons ?_ ?_
     ·intro u w hJ hF K hK
      have h33 : u 33 = .bool false := facts_get hF 33 (by simp)
      clear hF
      simp only [h33] at hK ⊢
      clear h33
      go_simp
      exact hK.out _ _ hJ (Below.refl _ _) (rfl)
     refine StepsFr.cons ?_ ?_
     ·intro u w hJ hF K hK
      have h33 : u 33 = .bool false := facts_get hF 33 (by simp)
      have h34 : u 34 = .int .i64 X := facts_get hF 34 (by simp)
      clear hF
      simp only [h33, h34] at hK ⊢
      clear h33 h34
      go_simp
      refine (rof_fact hX1 hX2).mono ?_
      rintro e w' ⟨v, rfl, hv, hb⟩
      exact hK.out _ _ (below_then hJ hb hJ.size) hb (hv)
     refine StepsFr.cons ?_ ?_
     ·intro u w hJ hF K hK
      have h33 : u 33 = .bool false := facts_get hF 33 (by simp)
      clear hF
      simp only [h33] at hK ⊢
      clear h33
      go_simp
      exact hK.out _ _ hJ (Below.refl _ _) rfl
     refine StepsFr.cons ?_ ?_
     ·intro u w hJ hF K hK
      have h33 : u 33 = .bool false := facts_get hF 33 (by simp)
      have h36 : u 36 = .pointer (some ⟨w0.heap.size, 0, none⟩) := facts_get hF 36 (by simp)
      clear hF
      simp only [h33, h36] at hK ⊢
      clear h33 h36
      have hf0 := (hJ.cell (p := ⟨w0.heap.size, 0, none⟩) hlt).trans hy0
      go_simp
      exact hK.out _ _ hJ (Below.refl _ _) rfl
     refine StepsFr.cons ?_ ?_
     ·intro u w hJ hF K hK
      have h33 : u 33 = .bool false := facts_get hF 33 (by simp)
      clear hF
      simp only [h33] at hK ⊢
      clear h33
      go_simp
      exact hK.out _ _ hJ (Below.refl _ _) rfl
     refine StepsFr.cons ?_ ?_
     ·intro u w hJ hF K hK
      have h33 : u 33 = .bool false := facts_get hF 33 (by simp)
      have h38 : u 38 = .pointer (some ⟨w0.heap.size, 1, none⟩) := facts_get hF 38 (by simp)
      clear hF
      simp only [h33, h38] at hK ⊢
      clear h33 h38
      have hf1 := (hJ.cell (p := ⟨w0.heap.size, 1, none⟩) hlt).trans hy1
      go_simp
      exact hK.out _ _ hJ (Below.refl _ _) rfl
     refine StepsFr.cons ?_ ?_
     ·intro u w hJ hF K hK
      have h33 : u 33 = .bool false := facts_get hF 33 (by simp)
      clear hF
      simp only [h33] at hK ⊢
      clear h33
      go_simp
      exact hK.out _ _ hJ (Below.refl _ _) (rfl)
     refine StepsFr.cons ?_ ?_
     ·intro u w hJ hF K hK
      have h33 : u 33 = .bool false := facts_get hF 33 (by simp)
      have h39 : u 39 = .slice (some ⟨b, o, none⟩) n c := facts_get hF 39 (by simp)
      have h40 : u 40 = .int .i64 m := facts_get hF 40 (by simp)
      clear hF
      simp only [h33, h39, h40] at hK ⊢
      clear h33 h39 h40
      go_simp
      exact hK.out _ _ hJ (Below.refl _ _) rfl
     refine StepsFr.cons ?_ ?_
     ·intro u w hJ hF K hK
      have h33 : u 33 = .bool false := facts_get hF 33 (by simp)
      have h37 : u 37 = .bool true := facts_get hF 37 (by simp)
      have h41 : u 41 = .slice (some ⟨b, o + m, none⟩) (n - m) (c - m) := facts_get hF 41 (by simp)
      clear hF
      simp only [h33, h37, h41] at hK ⊢
      clear h33 h37 h41
      go_simp
      refine (HSG.out _ (HRW.out.up hJ)).mono ?_
      rintro e w' ⟨v, rfl, hv, hb⟩
      exact hK.out _ _ (below_then hJ hb hJ.size) hb (hv)
     refine StepsFr.cons ?_ ?_
     ·intro u w hJ hF K hK
      have h33 : u 33 = .bool false := facts_get hF 33 (by simp)
      have h35 : PRef (X) 5 (u 35) w := facts_get hF 35 (by simp)
      have h42 : PRef (vR true L m) 5 (u 42) w := facts_get hF 42 (by simp)
      clear hF
      simp only [h33] at hK ⊢
      clear h33
      go_simp
      refine (HCM.out _ _ _ h35 h42).mono ?_
      rintro e w' ⟨rfl, hb⟩
      exact hK.out _ _ (below_then hJ hb hJ.size) hb (rfl)
     refine StepsFr.cons ?_ ?_
     ·intro u w hJ hF K hK
      have h33 : u 33 = .bool false := facts_get hF 33 (by simp)
      have h43 : u 43 = .int .i64 cc := facts_get hF 43 (by simp)
      clear hF
      simp only [h33, h43] at hK ⊢
      clear h33 h43
      go_simp
      exact hK.out _ _ hJ (Below.refl _ _) rfl
     refine StepsFr.cons ?_ ?_
     ·intro u w hJ hF K hK
      have h33 : u 33 = .bool false := facts_get hF 33 (by simp)
      have h44 : u 44 = .bool q := facts_get hF 44 (by simp)
      clear hF
      simp only [h33, h44] at hK ⊢
      clear h33 h44
      go_simp
      exact hK.out _ _ hJ (Below.refl _ _) rfl
     exact StepsFr.nil
    ·intro u w9 hJ9 hF
     have h45 : u 45 = .bool q := facts_get hF 45 (by simp [rsFLS, temps])
     clear hF
     simp only [h45]
     by_cases hr : inR (vR true L m)
     ·obtain rfl : q = false := HQ1.out hr
      go_wp2
      go_roundw
      case rel => exact ⟨m, by omega, by go_num, by rw [HXI.out hr], hr, HB.out.trans (Below.less hJ9 hlt)⟩
      case measure => first | (simp [intOf]; done) | (simp [intOf]; omega)
     ·obtain rfl : q = true := HQ2.out hr
      go_wp2
      go_ret2
      refine ⟨⟨fun hz => absurd (vR_in (HZ.out hz) (Nat.zero_le m)) hr, fun _ => rfl⟩, ?_⟩
      exact (below_alloc_new _).trans (Below.less (HB.out.trans (Below.less hJ9 hlt)) (by omega))
theorem big_out {w : World} {B : Nat} {k : Bool} {A : Option Addr} {c : Nat} {L : List Nat} (h : RefR w B k A c L) (hl : 5 < L.length) : ¬ inR (zR k L) := by
 have h2 : (10000 : Nat) ^ 5 ≤ 10000 ^ (L.length - 1) := Nat.pow_le_pow_right (by omega) (by omega)
 have h3 := valB_take_succ 10000 L (L.length - 1) (by omega)
 rw [show L.length - 1 + 1 = L.length by omega, List.take_of_length_le (Nat.le_refl _)] at h3
 have h4 := h.top (by omega)
 have h5 : 10000 ^ (L.length - 1) * 1 ≤ 10000 ^ (L.length - 1) * nth L (L.length - 1) := Nat.mul_le_mul_left _ (by omega)
 have h6 : 100000000000000000000 ≤ val4 L := by unfold val4; omega
 unfold inR zR minI maxI
 cases k <;> simp <;> omega
theorem rsmall_nil (A : Option Addr) (c : Nat) (w : World) :
  Calls Tryz.prog 92 #[.agg #[.bool false, .slice A 0 c]] w fun e w' => e = .returned (.tuple #[.int .i64 0, .bool true]) ∧ Below w.heap.size w w' := by
 go_enter Tryz.func92, Tryz.ntmps92
 go_wp2
 go_loopw [4, 5] (fun nv iv wr => iv = .int .i64 (-1) ∧ nv = .int .i64 0 ∧ Below w.heap.size w wr) (fun _ iv _ => (intOf iv + 1).toNat)
 case atStart => exact ⟨by first | rfl | (simp; done), rfl, below_alloc_new _⟩
 case round =>
  obtain ⟨rfl, rfl, hb⟩ := hrel
  go_wp2
  go_ret2
  exact ⟨rfl, hb⟩
def rsFLL0 (b o m c : Nat) (w0 : World) : List (Nat × Fact) := [(29, .is (.pointer (some ⟨w0.heap.size, 1, none⟩))), (30, .is (.slice (some ⟨b, o, none⟩) (m + 1) c)), (31, .is (.int .i64 ((m : Int) + 1))), (32, .is (.bool true)), (33, .is (.bool true)), (34, .is undef), (35, .is undef), (36, .is undef), (37, .is undef), (38, .is undef), (39, .is undef), (40, .is undef), (41, .is undef), (42, .is undef), (43, .is undef), (44, .is undef), (45, .is (.bool true))]
def rsFLL1 (b o m c : Nat) (w0 : World) : List (Nat × Fact) := [(29, .is (.pointer (some ⟨w0.heap.size, 1, none⟩))), (30, .is (.slice (some ⟨b, o, none⟩) (m + 1) c)), (31, .is (.int .i64 ((m : Int) + 1))), (32, .is (.bool true)), (33, .is (.bool true)), (34, .is undef), (35, .is undef), (36, .is undef), (37, .is undef), (38, .is undef), (39, .is undef), (40, .is undef), (41, .is undef), (42, .is undef), (43, .is undef), (44, .is undef), (45, .is (.bool true))]
theorem rsmall_long (k : Bool) (A : Option Addr) (c : Nat) (L : List Nat) (w0 : World) (hl : L.length ≤ 1000000) (hn0 : 5 < L.length) (hL : RefR w0 w0.heap.size k A c L) :
  Calls Tryz.prog 92 #[.agg #[.bool k, .slice A L.length c]] w0 fun e w' => RSmallPost (zR k L) e ∧ Below w0.heap.size w0 w' := by
 obtain ⟨b, o, rfl, hbB, hcs⟩ := hL.row.spot (by omega)
 have HNO := Lib.hid (big_out hL hn0)
 have HLIM := Lib.hid hL.lim
 have hlc := hL.row.len
 have hcm := hcs (L.length - 1) (by omega)
 clear hcs hL
 generalize hl' : L.length = n at *
 have HLL := Lib.hid hl'
 clear hl'
 obtain ⟨m, rfl⟩ : ∃ m, n = m + 1 := ⟨n - 1, by omega⟩
 have hcm2 : (w0.alloc (.cells #[.bool k, .slice (some ⟨b, o, none⟩) (m + 1) c] 33)).cell? ⟨b, o + m, none⟩ = some (.int .i64 (nth L m)) := ((below_alloc_new _).cell (by exact hbB)).trans hcm
 have hnl : nth L m < 10000 := nth_all HLIM.out (by omega) m
 have hy := boxed2 (Below.refl (w0.heap.size + 1) (w0.alloc (.cells #[.bool k, .slice (some ⟨b, o, none⟩) (m + 1) c] 33)))
 have hy0 := hy.1
 have hy1 := hy.2
 have hd5 : decide (5 < (m : Int) + 1) = true := by simp; omega
 have hm1 : (m : Int) + 1 - 1 = m := by omega
 have HY0 := Lib.hid hy0
 have HY1 := Lib.hid hy1
 have HD5 := Lib.hid hd5
 have HM1 := Lib.hid hm1
 have HCM2 := Lib.hid hcm2
 clear hy hy0 hy1 hd5 hm1 hcm2 hcm
 go_enter Tryz.func92, Tryz.ntmps92
 go_wp2
 go_loopw [4, 5] (fun nv iv wr => iv = .int .i64 (m : Int) ∧ nv = .int .i64 0 ∧ wr = w0.alloc (.cells #[.bool k, .slice (some ⟨b, o, none⟩) (m + 1) c] 33)) (fun _ iv _ => (intOf iv + 1).toNat)
 case atStart => exact ⟨by simp, rfl, rfl⟩
 case round =>
  obtain ⟨rfl, rfl, rfl⟩ := hrel
  have hy0 := HY0.out
  have hy1 := HY1.out
  have hd5 := HD5.out
  have hcm2 := HCM2.out
  have hlt : w0.heap.size < (w0.alloc (.cells #[.bool k, .slice (some ⟨b, o, none⟩) (m + 1) c] 33)).heap.size := by simp
  cases k
  ·go_upto_region 9 with (fail)
   refine region_facts (rsFLL0 b o m c w0) (fun w' => Below (w0.alloc (.cells #[.bool false, .slice (some ⟨b, o, none⟩) (m + 1) c] 33)).heap.size (w0.alloc (.cells #[.bool false, .slice (some ⟨b, o, none⟩) (m + 1) c] 33)) w') [[], [29], [30], [31], [32], [33], [33], [33], [33], [33], [33], [33], [33], [33], [33], [33], [33, 44]] (fun u => by simp only [rsFLL0, temps, List.map_cons, List.map_nil, fillL, List.setIfInBounds_toArray, List.set_cons_zero, List.set_cons_succ]; rfl) (by kernel_rfl) (by kernel_rfl) (by kernel_rfl) (below_drew (Below.refl _ _)) ?_ ?_
   ·refine StepsFr.cons ?_ ?_
    ·intro u w hJ hF K hK
     clear hF
     go_simp
     exact hK.out _ _ hJ (Below.refl _ _) rfl
    refine StepsFr.cons ?_ ?_
    ·intro u w hJ hF K hK
     have h29 : u 29 = .pointer (some ⟨w0.heap.size, 1, none⟩) := facts_get hF 29 (by simp)
     clear hF
     simp only [h29] at hK ⊢
     clear h29
     have hf1 := (hJ.cell (p := ⟨w0.heap.size, 1, none⟩) hlt).trans hy1
     go_simp
     exact hK.out _ _ hJ (Below.refl _ _) rfl
    refine StepsFr.cons ?_ ?_
    ·intro u w hJ hF K hK
     have h30 : u 30 = .slice (some ⟨b, o, none⟩) (m + 1) c := facts_get hF 30 (by simp)
     clear hF
     simp only [h30] at hK ⊢
     clear h30
     go_simp
     exact hK.out _ _ hJ (Below.refl _ _) rfl
    refine StepsFr.cons ?_ ?_
    ·intro u w hJ hF K hK
     have h31 : u 31 = .int .i64 ((m : Int) + 1) := facts_get hF 31 (by simp)
     clear hF
     simp only [h31] at hK ⊢
     clear h31
     go_simp
     exact hK.out _ _ hJ (Below.refl _ _) rfl
    refine StepsFr.cons ?_ ?_
    ·intro u w hJ hF K hK
     have h32 : u 32 = .bool true := facts_get hF 32 (by simp)
     clear hF
     simp only [h32] at hK ⊢
     clear h32
     go_simp
     exact hK.out _ _ hJ (Below.refl _ _) (rfl)
    refine StepsFr.cons ?_ ?_
    ·intro u w hJ hF K hK
     have h33 : u 33 = .bool true := facts_get hF 33 (by simp)
     clear hF
     simp only [h33] at hK ⊢
     clear h33
     go_simp
     exact hK.out _ _ hJ (Below.refl _ _) rfl
    refine StepsFr.cons ?_ ?_
    ·intro u w hJ hF K hK
     have h33 : u 33 = .bool true := facts_get hF 33 (by simp)
     clear hF
     simp only [h33] at hK ⊢
     clear h33
     go_simp
     exact hK.out _ _ hJ (Below.refl _ _) rfl
    refine StepsFr.cons ?_ ?_
    ·intro u w hJ hF K hK
     have h33 : u 33 = .bool true := facts_get hF 33 (by simp)
     clear hF
     simp only [h33] at hK ⊢
     clear h33
     go_simp
     exact hK.out _ _ hJ (Below.refl _ _) rfl
    refine StepsFr.cons ?_ ?_
    ·intro u w hJ hF K hK
     have h33 : u 33 = .bool true := facts_get hF 33 (by simp)
     clear hF
     simp only [h33] at hK ⊢
     clear h33
     go_simp
     exact hK.out _ _ hJ (Below.refl _ _) rfl
    refine StepsFr.cons ?_ ?_
    ·intro u w hJ hF K hK
     have h33 : u 33 = .bool true := facts_get hF 33 (by simp)
     clear hF
     simp only [h33] at hK ⊢
     clear h33
     go_simp
     exact hK.out _ _ hJ (Below.refl _ _) rfl
    refine StepsFr.cons ?_ ?_
    ·intro u w hJ hF K hK
     have h33 : u 33 = .bool true := facts_get hF 33 (by simp)
     clear hF
     simp only [h33] at hK ⊢
     clear h33
     go_simp
     exact hK.out _ _ hJ (Below.refl _ _) rfl
    refine StepsFr.cons ?_ ?_
    ·intro u w hJ hF K hK
     have h33 : u 33 = .bool true := facts_get hF 33 (by simp)
     clear hF
     simp only [h33] at hK ⊢
     clear h33
     go_simp
     exact hK.out _ _ hJ (Below.refl _ _) rfl
    refine StepsFr.cons ?_ ?_
    ·intro u w hJ hF K hK
     have h33 : u 33 = .bool true := facts_get hF 33 (by simp)
     clear hF
     simp only [h33] at hK ⊢
     clear h33
     go_simp
     exact hK.out _ _ hJ (Below.refl _ _) rfl
    refine StepsFr.cons ?_ ?_
    ·intro u w hJ hF K hK
     have h33 : u 33 = .bool true := facts_get hF 33 (by simp)
     clear hF
     simp only [h33] at hK ⊢
     clear h33
     go_simp
     exact hK.out _ _ hJ (Below.refl _ _) rfl
    refine StepsFr.cons ?_ ?_
    ·intro u w hJ hF K hK
     have h33 : u 33 = .bool true := facts_get hF 33 (by simp)
     clear hF
     simp only [h33] at hK ⊢
     clear h33
     go_simp
     exact hK.out _ _ hJ (Below.refl _ _) rfl
    refine StepsFr.cons ?_ ?_
    ·intro u w hJ hF K hK
     have h33 : u 33 = .bool true := facts_get hF 33 (by simp)
     clear hF
     simp only [h33] at hK ⊢
     clear h33
     go_simp
     exact hK.out _ _ hJ (Below.refl _ _) rfl
    refine StepsFr.cons ?_ ?_
    ·intro u w hJ hF K hK
     have h33 : u 33 = .bool true := facts_get hF 33 (by simp)
     have h44 : u 44 = undef := facts_get hF 44 (by simp)
     clear hF
     simp only [h33, h44] at hK ⊢
     clear h33 h44
     go_simp
     exact hK.out _ _ hJ (Below.refl _ _) rfl
    exact StepsFr.nil
   ·intro u w9 hJ9 hF
    have h45 : u 45 = .bool true := facts_get hF 45 (by simp [rsFLL0, temps])
    clear hF
    simp only [h45]
    go_wp2
    go_ret2
    refine ⟨⟨fun hz => absurd hz HNO.out, fun _ => rfl⟩, ?_⟩
    exact (below_alloc_new _).trans (Below.less hJ9 (by simp))
  ·go_upto_region 9 with (fail)
   refine region_facts (rsFLL1 b o m c w0) (fun w' => Below (w0.alloc (.cells #[.bool true, .slice (some ⟨b, o, none⟩) (m + 1) c] 33)).heap.size (w0.alloc (.cells #[.bool true, .slice (some ⟨b, o, none⟩) (m + 1) c] 33)) w') [[], [29], [30], [31], [32], [33], [33], [33], [33], [33], [33], [33], [33], [33], [33], [33], [33, 44]] (fun u => by simp only [rsFLL1, temps, List.map_cons, List.map_nil, fillL, List.setIfInBounds_toArray, List.set_cons_zero, List.set_cons_succ]; rfl) (by kernel_rfl) (by kernel_rfl) (by kernel_rfl) (below_drew (Below.refl _ _)) ?_ ?_
   ·refine StepsFr.cons ?_ ?_
    ·intro u w hJ hF K hK
     clear hF
     go_simp
     exact hK.out _ _ hJ (Below.refl _ _) rfl
    refine StepsFr.cons ?_ ?_
    ·intro u w hJ hF K hK
     have h29 : u 29 = .pointer (some ⟨w0.heap.size, 1, none⟩) := facts_get hF 29 (by simp)
     clear hF
     simp only [h29] at hK ⊢
     clear h29
     have hf1 := (hJ.cell (p := ⟨w0.heap.size, 1, none⟩) hlt).trans hy1
     go_simp
     exact hK.out _ _ hJ (Below.refl _ _) rfl
    refine StepsFr.cons ?_ ?_
    ·intro u w hJ hF K hK
     have h30 : u 30 = .slice (some ⟨b, o, none⟩) (m + 1) c := facts_get hF 30 (by simp)
     clear hF
     simp only [h30] at hK ⊢
     clear h30
     go_simp
     exact hK.out _ _ hJ (Below.refl _ _) rfl
    refine StepsFr.cons ?_ ?_
    ·intro u w hJ hF K hK
     have h31 : u 31 = .int .i64 ((m : Int) + 1) := facts_get hF 31 (by simp)
     clear hF
     simp only [h31] at hK ⊢
     clear h31
     go_simp
     exact hK.out _ _ hJ (Below.refl _ _) rfl
    refine StepsFr.cons ?_ ?_
    ·intro u w hJ hF K hK
     have h32 : u 32 = .bool true := facts_get hF 32 (by simp)
     clear hF
     simp only [h32] at hK ⊢
     clear h32
     go_simp
     exact hK.out _ _ hJ (Below.refl _ _) (rfl)
    refine StepsFr.cons ?_ ?_
    ·intro u w hJ hF K hK
     have h33 : u 33 = .bool true := facts_get hF 33 (by simp)
     clear hF
     simp only [h33] at hK ⊢
     clear h33
     go_simp
     exact hK.out _ _ hJ (Below.refl _ _) rfl
    refine StepsFr.cons ?_ ?_
    ·intro u w hJ hF K hK
     have h33 : u 33 = .bool true := facts_get hF 33 (by simp)
     clear hF
     simp only [h33] at hK ⊢
     clear h33
     go_simp
     exact hK.out _ _ hJ (Below.refl _ _) rfl
    refine StepsFr.cons ?_ ?_
    ·intro u w hJ hF K hK
     have h33 : u 33 = .bool true := facts_get hF 33 (by simp)
     clear hF
     simp only [h33] at hK ⊢
     clear h33
     go_simp
     exact hK.out _ _ hJ (Below.refl _ _) rfl
    refine StepsFr.cons ?_ ?_
    ·intro u w hJ hF K hK
     have h33 : u 33 = .bool true := facts_get hF 33 (by simp)
     clear hF
     simp only [h33] at hK ⊢
     clear h33
     go_simp
     exact hK.out _ _ hJ (Below.refl _ _) rfl
    refine StepsFr.cons ?_ ?_
    ·intro u w hJ hF K hK
     have h33 : u 33 = .bool true := facts_get hF 33 (by simp)
     clear hF
     simp only [h33] at hK ⊢
     clear h33
     go_simp
     exact hK.out _ _ hJ (Below.refl _ _) rfl
    refine StepsFr.cons ?_ ?_
    ·intro u w hJ hF K hK
     have h33 : u 33 = .bool true := facts_get hF 33 (by simp)
     clear hF
     simp only [h33] at hK ⊢
     clear h33
     go_simp
     exact hK.out _ _ hJ (Below.refl _ _) rfl
    refine StepsFr.cons ?_ ?_
    ·intro u w hJ hF K hK
     have h33 : u 33 = .bool true := facts_get hF 33 (by simp)
     clear hF
     simp only [h33] at hK ⊢
     clear h33
     go_simp
     exact hK.out _ _ hJ (Below.refl _ _) rfl
    refine StepsFr.cons ?_ ?_
    ·intro u w hJ hF K hK
     have h33 : u 33 = .bool true := facts_get hF 33 (by simp)
     clear hF
     simp only [h33] at hK ⊢
     clear h33
     go_simp
     exact hK.out _ _ hJ (Below.refl _ _) rfl
    refine StepsFr.cons ?_ ?_
    ·intro u w hJ hF K hK
     have h33 : u 33 = .bool true := facts_get hF 33 (by simp)
     clear hF
     simp only [h33] at hK ⊢
     clear h33
     go_simp
     exact hK.out _ _ hJ (Below.refl _ _) rfl
    refine StepsFr.cons ?_ ?_
    ·intro u w hJ hF K hK
     have h33 : u 33 = .bool true := facts_get hF 33 (by simp)
     clear hF
     simp only [h33] at hK ⊢
     clear h33
     go_simp
     exact hK.out _ _ hJ (Below.refl _ _) rfl
    refine StepsFr.cons ?_ ?_
    ·intro u w hJ hF K hK
     have h33 : u 33 = .bool true := facts_get hF 33 (by simp)
     clear hF
     simp only [h33] at hK ⊢
     clear h33
     go_simp
     exact hK.out _ _ hJ (Below.refl _ _) rfl
    refine StepsFr.cons ?_ ?_
    ·intro u w hJ hF K hK
     have h33 : u 33 = .bool true := facts_get hF 33 (by simp)
     have h44 : u 44 = undef := facts_get hF 44 (by simp)
     clear hF
     simp only [h33, h44] at hK ⊢
     clear h33 h44
     go_simp
     exact hK.out _ _ hJ (Below.refl _ _) rfl
    exact StepsFr.nil
   ·intro u w9 hJ9 hF
    have h45 : u 45 = .bool true := facts_get hF 45 (by simp [rsFLL1, temps])
    clear hF
    simp only [h45]
    go_wp2
    go_ret2
    refine ⟨⟨fun hz => absurd hz HNO.out, fun _ => rfl⟩, ?_⟩
    exact (below_alloc_new _).trans (Below.less hJ9 (by simp))
theorem rsmall_fact {z : Int} {n : Nat} {a : Value} {w : World} (h1 : PRef z n a w) (hn : n ≤ 1000000) :
  Calls Tryz.prog 92 #[a] w fun e w' => e = .returned (.tuple #[.int .i64 (smN z), .bool (smB z)]) ∧ Below w.heap.size w w' := by
 obtain ⟨k, A, c, L, rfl, i1, rfl, l1⟩ := h1
 have hp : ∀ e, RSmallPost (zR k L) e → e = .returned (.tuple #[.int .i64 (smN (zR k L)), .bool (smB (zR k L))]) := by
  intro e ⟨h1, h2⟩
  unfold smN
  by_cases h : inR (zR k L)
  ·rw [smB_in h, if_pos rfl]; exact h1 h
  ·rw [smB_out h, if_neg (by simp)]; exact h2 h
 rcases Nat.eq_zero_or_pos L.length with h0 | h0
 ·have : L = [] := List.eq_nil_of_length_eq_zero h0
  subst this
  have hk : k = false := by
   cases k
   ·rfl
   ·exact absurd rfl (i1.sgn rfl)
  subst hk
  refine (rsmall_nil A c w).mono fun e w' ⟨he, hb⟩ => ⟨?_, hb⟩
  rw [he]
  rfl
 ·rcases Nat.lt_or_ge 5 L.length with h5 | h5
  ·exact (rsmall_long k A c L w (by omega) h5 i1).mono fun e w' ⟨he, hb⟩ => ⟨hp e he, hb⟩
  ·exact (rsmall_short k A c L w h5 h0 i1).mono fun e w' ⟨he, hb⟩ => ⟨hp e he, hb⟩
theorem rnear_eq (a b : Int) (hb : 0 < b) : (if a < 0 then -Int.tdiv (2 * (a.natAbs : Int) + b) (2 * b) else Int.tdiv (2 * (a.natAbs : Int) + b) (2 * b)) = rndI a b := by
 unfold rndI
 split
 ·rename_i h
  rw [Int.tdiv_eq_ediv_of_nonneg (by omega), Int.ofNat_natAbs_of_nonpos (by omega)]
 ·rename_i h
  rw [Int.tdiv_eq_ediv_of_nonneg (by omega), Int.natAbs_of_nonneg (by omega)]
open AS (Keep NoInt)
section
variable {t : TypeId} {w w' : World} {g : Nat} {vs : List Value}
end
theorem RRat.more {x : Rat} {n m : Nat} {v : Value} {w : World} (h : RRat x n v w) (hm : n ≤ m) : RRat x m v w := by
 obtain ⟨p, q, k, A, l, c, k', A', l', c', rfl, h1, h2, h3⟩ := h
 exact ⟨p, q, k, A, l, c, k', A', l', c', rfl, h1.more hm, h2.more hm, h3⟩
def AS.Fact.rrat (x : Rat) (n : Nat) : AS.Fact := ⟨RRat x n, fun _ _ _ hk h => h.kept hk⟩
def RQuoP (q : Int) (n : Nat) (v : Value) (w : World) : Prop := ∃ a k' A' l' c', v = .tuple #[a, .agg #[.bool k', .slice A' l' c'], .int .i64 0] ∧ PRef q n a w
def AS.Fact.rquo (q : Int) (n : Nat) : AS.Fact := ⟨RQuoP q n, fun _ _ _ hk ⟨a, k', A', l', c', e, h1⟩ => ⟨a, k', A', l', c', e, h1.kept hk⟩⟩
open Go.RowKit
open AS (Keep NoInt)
theorem rmul_fact {x y : Int} {n m : Nat} {a b : Value} {w : World} (h1 : PRef x n a w) (h2 : PRef y m b w) (hn : n ≤ 500000) (hm : m ≤ 500000) :
  Calls Tryz.prog 70 #[a, b] w fun e w' => ∃ v, e = .returned v ∧ PRef (x * y) (n + m) v w' ∧ Below w.heap.size w w' := by
 obtain ⟨k, A, c, L, rfl, i1, rfl, l1⟩ := h1
 obtain ⟨k', A', c', M, rfl, i2, rfl, l2⟩ := h2
 refine (rmulI_any k k' A A' c c' L M w (by omega) (by omega) i1 i2).mono ?_
 rintro e w' ⟨q, B, d, R, rfl, hi, hz, hl, hb⟩
 exact ⟨_, rfl, ⟨q, B, d, R, rfl, hi, hz, by omega⟩, hb⟩
theorem radd_fact {x y : Int} {n m : Nat} {a b : Value} {w : World} (h1 : PRef x n a w) (h2 : PRef y m b w) (hn : n ≤ 500000) (hm : m ≤ 500000) :
  Calls Tryz.prog 69 #[a, b] w fun e w' => ∃ v, e = .returned v ∧ PRef (x + y) (n + m + 1) v w' ∧ Below w.heap.size w w' := by
 obtain ⟨k, A, c, L, rfl, i1, rfl, l1⟩ := h1
 obtain ⟨k', A', c', M, rfl, i2, rfl, l2⟩ := h2
 refine (raddI_any k k' A A' c c' L M w (by omega) (by omega) i1 i2).mono ?_
 rintro e w' ⟨q, B, d, R, rfl, hi, hz, hl, hb⟩
 exact ⟨_, rfl, ⟨q, B, d, R, rfl, hi, hz, by omega⟩, hb⟩
def rratMulFL (x y : Rat) (n : Nat) : List (Nat × AS.Fact) := [(19, AS.Fact.ref (x.num) n), (20, AS.Fact.ref (y.num) n), (21, AS.Fact.ref ((x.num) * (y.num)) (n + n)), (22, AS.Fact.ref ((x.den : Int)) n), (23, AS.Fact.ref ((y.den : Int)) n), (24, AS.Fact.ref (((x.den : Int)) * ((y.den : Int))) (n + n)), (25, AS.Fact.rrat (x * y) (n + n))]
set_option maxRecDepth 20000 in
set_option maxHeartbeats 3200000 in
theorem rratMul_fact {x y : Rat} {n : Nat} {v v2 : Value} {w : World} (h : RRat x n v w) (h2 : RRat y n v2 w) (hn3 : 5 ≤ n) (hn : n ≤ 4000) :
  Calls Tryz.prog 31 #[v, v2] w fun e w' => ∃ v, e = .returned v ∧ RRat (x * y) (n + n) v w' ∧ Below w.heap.size w w' := by
 obtain ⟨k, A, l, c, k', A', l', c', rfl⟩ := h.open
 obtain ⟨r, E, m, d, r', E', m', d', rfl⟩ := h2.open
 have H1 := Lib.hid h
 have H2 := Lib.hid h2
 clear h h2
 go_enter Tryz.func31, Tryz.ntmps31
 go_upto_region 1 with (fail)
 change Code.wp Tryz.prog _ _ _ (((w.alloc (.cells #[.bool k, .slice A l c, .bool k', .slice A' l' c'] 35)).alloc (.cells #[.bool r, .slice E m d, .bool r', .slice E' m' d'] 35)).alloc (.cells #[.bool false, .slice none 0 0, .bool false, .slice none 0 0] 35))
 obtain ⟨nb2, nb3, nb4, na⟩ := new3 w 35 [.bool k, .slice A l c, .bool k', .slice A' l' c'] 35 [.bool r, .slice E m d, .bool r', .slice E' m' d'] 35 [.bool false, .slice none 0 0, .bool false, .slice none 0 0] lf4 lf4 lf4
 have nkeep := Keep.ofBelow na
 have nbel := na
 generalize ((w.alloc (.cells #[.bool k, .slice A l c, .bool k', .slice A' l' c'] 35)).alloc (.cells #[.bool r, .slice E m d, .bool r', .slice E' m' d'] 35)).alloc (.cells #[.bool false, .slice none 0 0, .bool false, .slice none 0 0] 35) = W1 at *
 clear na
 have b2 := Lib.hid nb2
 have b3 := Lib.hid nb3
 have b4 := Lib.hid nb4
 clear nb2 nb3 nb4
 replace H1 := Lib.hid (H1.out.kept nkeep)
 replace H2 := Lib.hid (H2.out.kept nkeep)
 clear nkeep
 have HB2 := Lib.hid nbel
 clear nbel
 obtain ⟨x2_0, x2_1, x2_2, x2_3, s2⟩ := b2.out.d4
 obtain ⟨x3_0, x3_1, x3_2, x3_3, s3⟩ := b3.out.d4
 obtain ⟨x4_0, x4_1, x4_2, x4_3, s4⟩ := b4.out.d4
 have szb := HB2.out.size
 go_wp2_with fail
 refine (rparts_fact H1.out hn3).mono ?_
 rintro e W3 ⟨k1, A1, l1, c1, j1, B1, o1, e1, rfl, ha_, hc_, hb⟩
 replace b2 := hup b2 hb
 replace b3 := hup b3 hb
 replace b4 := hup b4 hb
 replace H1 := Lib.hid (H1.out.kept (Keep.ofBelow hb))
 replace H2 := Lib.hid (H2.out.kept (Keep.ofBelow hb))
 have nbel := below_then HB2.out hb HB2.out.size
 have HB4 := Lib.hid nbel
 clear nbel HB2 hb x2_0 x2_1 x2_2 x2_3 x3_0 x3_1 x3_2 x3_3 x4_0 x4_1 x4_2 x4_3 szb s2 s3 s4
 obtain ⟨x2_0, x2_1, x2_2, x2_3, s2⟩ := b2.out.d4
 obtain ⟨x3_0, x3_1, x3_2, x3_3, s3⟩ := b3.out.d4
 obtain ⟨x4_0, x4_1, x4_2, x4_3, s4⟩ := b4.out.d4
 have szb := HB4.out.size
 have HA := Lib.hid ha_
 have HB := Lib.hid hc_
 clear ha_ hc_
 go_upto_region 2 with (fail)
 have q5 := b2.out.lt
 have q6 := b3.out.lt
 have q7 := b4.out.lt
 change Code.wp Tryz.prog _ _ _ ((W3.alloc (.cells #[.bool k1, .slice A1 l1 c1] 33)).alloc (.cells #[.bool j1, .slice B1 o1 e1] 33))
 obtain ⟨nb5, nb6, na⟩ := new2 W3 33 [.bool k1, .slice A1 l1 c1] 33 [.bool j1, .slice B1 o1 e1] lf2 lf2
 have nb2 := b2.out.up na
 have nb3 := b3.out.up na
 have nb4 := b4.out.up na
 have nkeep := Keep.ofBelow na
 have nbel := below_then HB4.out na HB4.out.size
 generalize (W3.alloc (.cells #[.bool k1, .slice A1 l1 c1] 33)).alloc (.cells #[.bool j1, .slice B1 o1 e1] 33) = W8 at *
 clear na x2_0 x2_1 x2_2 x2_3 x3_0 x3_1 x3_2 x3_3 x4_0 x4_1 x4_2 x4_3 szb s2 s3 s4 b2 b3 b4
 have b2 := Lib.hid nb2
 have b3 := Lib.hid nb3
 have b4 := Lib.hid nb4
 have b5 := Lib.hid nb5
 have b6 := Lib.hid nb6
 clear nb2 nb3 nb4 nb5 nb6
 replace H1 := Lib.hid (H1.out.kept nkeep)
 replace H2 := Lib.hid (H2.out.kept nkeep)
 replace HA := Lib.hid (HA.out.kept nkeep)
 replace HB := Lib.hid (HB.out.kept nkeep)
 clear nkeep
 have HB9 := Lib.hid nbel
 clear nbel HB4
 obtain ⟨x2_0, x2_1, x2_2, x2_3, s2⟩ := b2.out.d4
 obtain ⟨x3_0, x3_1, x3_2, x3_3, s3⟩ := b3.out.d4
 obtain ⟨x4_0, x4_1, x4_2, x4_3, s4⟩ := b4.out.d4
 obtain ⟨x5_0, x5_1, s5⟩ := b5.out.d2
 obtain ⟨x6_0, x6_1, s6⟩ := b6.out.d2
 have szb := HB9.out.size
 go_wp2_with fail
 refine (rparts_fact H2.out hn3).mono ?_
 rintro e W10 ⟨k2, A2, l2, c2, j2, B2, o2, e2, rfl, ha_, hc_, hb⟩
 replace b2 := hup b2 hb
 replace b3 := hup b3 hb
 replace b4 := hup b4 hb
 replace b5 := hup b5 hb
 replace b6 := hup b6 hb
 replace H1 := Lib.hid (H1.out.kept (Keep.ofBelow hb))
 replace H2 := Lib.hid (H2.out.kept (Keep.ofBelow hb))
 replace HA := Lib.hid (HA.out.kept (Keep.ofBelow hb))
 replace HB := Lib.hid (HB.out.kept (Keep.ofBelow hb))
 have nbel := below_then HB9.out hb HB9.out.size
 have HB11 := Lib.hid nbel
 clear nbel HB9 hb x2_0 x2_1 x2_2 x2_3 x3_0 x3_1 x3_2 x3_3 x4_0 x4_1 x4_2 x4_3 x5_0 x5_1 x6_0 x6_1 szb s2 s3 s4 s5 s6
 obtain ⟨x2_0, x2_1, x2_2, x2_3, s2⟩ := b2.out.d4
 obtain ⟨x3_0, x3_1, x3_2, x3_3, s3⟩ := b3.out.d4
 obtain ⟨x4_0, x4_1, x4_2, x4_3, s4⟩ := b4.out.d4
 obtain ⟨x5_0, x5_1, s5⟩ := b5.out.d2
 obtain ⟨x6_0, x6_1, s6⟩ := b6.out.d2
 have szb := HB11.out.size
 have HC := Lib.hid ha_
 have HD := Lib.hid hc_
 clear ha_ hc_
 go_upto_region 3 with (fail)
 have q12 := b2.out.lt
 have q13 := b3.out.lt
 have q14 := b4.out.lt
 have q15 := b5.out.lt
 have q16 := b6.out.lt
 change Code.wp Tryz.prog _ _ _ ((W10.alloc (.cells #[.bool k2, .slice A2 l2 c2] 33)).alloc (.cells #[.bool j2, .slice B2 o2 e2] 33))
 obtain ⟨nb7, nb8, na⟩ := new2 W10 33 [.bool k2, .slice A2 l2 c2] 33 [.bool j2, .slice B2 o2 e2] lf2 lf2
 have nb2 := b2.out.up na
 have nb3 := b3.out.up na
 have nb4 := b4.out.up na
 have nb5 := b5.out.up na
 have nb6 := b6.out.up na
 have nkeep := Keep.ofBelow na
 have nbel := below_then HB11.out na HB11.out.size
 generalize (W10.alloc (.cells #[.bool k2, .slice A2 l2 c2] 33)).alloc (.cells #[.bool j2, .slice B2 o2 e2] 33) = W17 at *
 clear na x2_0 x2_1 x2_2 x2_3 x3_0 x3_1 x3_2 x3_3 x4_0 x4_1 x4_2 x4_3 x5_0 x5_1 x6_0 x6_1 szb s2 s3 s4 s5 s6 b2 b3 b4 b5 b6
 have b2 := Lib.hid nb2
 have b3 := Lib.hid nb3
 have b4 := Lib.hid nb4
 have b5 := Lib.hid nb5
 have b6 := Lib.hid nb6
 have b7 := Lib.hid nb7
 have b8 := Lib.hid nb8
 clear nb2 nb3 nb4 nb5 nb6 nb7 nb8
 replace H1 := Lib.hid (H1.out.kept nkeep)
 replace H2 := Lib.hid (H2.out.kept nkeep)
 replace HA := Lib.hid (HA.out.kept nkeep)
 replace HB := Lib.hid (HB.out.kept nkeep)
 replace HC := Lib.hid (HC.out.kept nkeep)
 replace HD := Lib.hid (HD.out.kept nkeep)
 clear nkeep
 have HB18 := Lib.hid nbel
 clear nbel HB11
 obtain ⟨x2_0, x2_1, x2_2, x2_3, s2⟩ := b2.out.d4
 obtain ⟨x3_0, x3_1, x3_2, x3_3, s3⟩ := b3.out.d4
 obtain ⟨x4_0, x4_1, x4_2, x4_3, s4⟩ := b4.out.d4
 obtain ⟨x5_0, x5_1, s5⟩ := b5.out.d2
 obtain ⟨x6_0, x6_1, s6⟩ := b6.out.d2
 obtain ⟨x7_0, x7_1, s7⟩ := b7.out.d2
 obtain ⟨x8_0, x8_1, s8⟩ := b8.out.d2
 have szb := HB18.out.size
 refine AS.region_facts (rratMulFL x y n) (JRes w W17 35 (w.heap.size + 1 + 1)) [[], [], [19, 20], [], [], [22, 23], [21, 24], [25]] [7] [[], [25]] [0, 0, 1, 0, 0, 1, 1, 1] [] (fun u => by simp only [rratMulFL, AS.temps, List.map_cons, List.map_nil, fillL, List.setIfInBounds_toArray, List.set_cons_zero, List.set_cons_succ]; rfl) (by kernel_rfl) (by kernel_rfl) (JRes.st w W17 35 (w.heap.size + 1 + 1)) (below_drew (Below.refl _ _)) ?_ ?_
 ·refine AS.sc rfl rfl rfl ?_ ?_
  ·intro k_ u w_ hk hJ hF K hK
   clear hF
   obtain rfl : k_ = 0 := Nat.le_zero.1 hk
   have hJ0 : Below W17.heap.size W17 w_ := hJ
   obtain ⟨y0, y1⟩ := ((b5.out).up hJ0).c2
   go_simp
   exact hK.out _ _ (Below.refl _ _) ((HA.out).kept (Keep.ofBelow hJ0)) trivial
  refine AS.sc rfl rfl rfl ?_ ?_
  ·intro k_ u w_ hk hJ hF K hK
   clear hF
   obtain rfl : k_ = 0 := Nat.le_zero.1 hk
   have hJ0 : Below W17.heap.size W17 w_ := hJ
   obtain ⟨y0, y1⟩ := ((b7.out).up hJ0).c2
   go_simp
   exact hK.out _ _ (Below.refl _ _) ((HC.out).kept (Keep.ofBelow hJ0)) trivial
  refine AS.sc rfl rfl rfl ?_ ?_
  ·intro k_ u w_ hk hJ hF K hK
   have h19 : PRef (x.num) n (u 19) w_ := AS.facts_get hF 19 (by simp)
   have h20 : PRef (y.num) n (u 20) w_ := AS.facts_get hF 20 (by simp)
   clear hF
   go_simp
   refine (rmul_fact h19 h20 (by omega) (by omega)).mono ?_
   rintro e w' ⟨v, rfl, hv, hb⟩
   exact hK.out _ _ hb (hv) trivial
  refine AS.sc rfl rfl rfl ?_ ?_
  ·intro k_ u w_ hk hJ hF K hK
   clear hF
   obtain rfl : k_ = 0 := Nat.le_zero.1 hk
   have hJ0 : Below W17.heap.size W17 w_ := hJ
   obtain ⟨y0, y1⟩ := ((b6.out).up hJ0).c2
   go_simp
   exact hK.out _ _ (Below.refl _ _) ((HB.out).kept (Keep.ofBelow hJ0)) trivial
  refine AS.sc rfl rfl rfl ?_ ?_
  ·intro k_ u w_ hk hJ hF K hK
   clear hF
   obtain rfl : k_ = 0 := Nat.le_zero.1 hk
   have hJ0 : Below W17.heap.size W17 w_ := hJ
   obtain ⟨y0, y1⟩ := ((b8.out).up hJ0).c2
   go_simp
   exact hK.out _ _ (Below.refl _ _) ((HD.out).kept (Keep.ofBelow hJ0)) trivial
  refine AS.sc rfl rfl rfl ?_ ?_
  ·intro k_ u w_ hk hJ hF K hK
   have h22 : PRef ((x.den : Int)) n (u 22) w_ := AS.facts_get hF 22 (by simp)
   have h23 : PRef ((y.den : Int)) n (u 23) w_ := AS.facts_get hF 23 (by simp)
   clear hF
   go_simp
   refine (rmul_fact h22 h23 (by omega) (by omega)).mono ?_
   rintro e w' ⟨v, rfl, hv, hb⟩
   exact hK.out _ _ hb (hv) trivial
  refine AS.sc rfl rfl rfl ?_ ?_
  ·intro k_ u w_ hk hJ hF K hK
   have h21 : PRef ((x.num) * (y.num)) (n + n) (u 21) w_ := AS.facts_get hF 21 (by simp)
   have h24 : PRef (((x.den : Int)) * ((y.den : Int))) (n + n) (u 24) w_ := AS.facts_get hF 24 (by simp)
   clear hF
   go_simp
   refine (rquot_fact (n := (n + n)) (h21.more (by omega)) (h24.more (by omega)) (by omega) (mul_ne (den_ne x) (den_ne y))).mono ?_
   rintro e w' ⟨v, rfl, hv, hb⟩
   exact hK.out _ _ hb (by rw [mul_terms] at hv; exact hv) trivial
  refine AS.ss rfl rfl ?_ ?_
  ·intro u w_ hJ hAp hF K hK
   have h25 : RRat (x * y) (n + n) (u 25) w_ := AS.facts_get hF 25 (by simp)
   clear hF
   obtain ⟨k1, A1, l1, c1, k2, A2, l2, c2, e_⟩ := h25.open
   have hJ0 : Below W17.heap.size W17 w_ := hJ
   have bx := (b4.out).up hJ0
   have hbel := below_then HB18.out hJ0 HB18.out.size
   have y0 := bx.cell 0
   have z0 := bx.frozen 0
   have y1 := bx.cell 1
   have z1 := bx.frozen 1
   have y2 := bx.cell 2
   have z2 := bx.frozen 2
   have y3 := bx.cell 3
   have z3 := bx.frozen 3
   simp only [List.getElem?_cons_zero, List.getElem?_cons_succ] at y0 y1 y2 y3
   simp only [e_] at hK ⊢
   go_simp
   exact hK.out undef _ ⟨⟨(Below.setCell (p := ⟨w.heap.size + 1 + 1, 3, none⟩) (Below.setCell (p := ⟨w.heap.size + 1 + 1, 2, none⟩) (Below.set2 (g := w.heap.size + 1 + 1) hbel (by first | omega | (simp; done) | (simp; omega)) (.bool k1) (.slice A1 l1 c1)) (by first | omega | (simp; done) | (simp; omega)) (.bool k2)) (by first | omega | (simp; done) | (simp; omega)) (.slice A2 l2 c2)), (by simp only [setCell_size]; first | exact hsz | exact Nat.le_trans HB18.out.size hJ0.size)⟩, [.bool k1, .slice A1 l1 c1, .bool k2, .slice A2 l2 c2], by simp [e_], (Bx.set4 bx (Leaf.bool k1) (Leaf.slice A1 l1 c1) (Leaf.bool k2) (Leaf.slice A2 l2 c2))⟩ (Keep.set4 (Keep.refl w_) bx (Leaf.bool k1) (Leaf.slice A1 l1 c1) (Leaf.bool k2) (Leaf.slice A2 l2 c2))
  exact AS.StepsOk.nil
 ·intro u W19 hJ9 hF
  have h25 : RRat (x * y) (n + n) (u 25) W19 := AS.facts_get hF 25 (by simp [rratMulFL, AS.temps])
  clear hF
  obtain ⟨⟨hbel, -⟩, vs, hvs, hbx⟩ := hJ9
  obtain ⟨ka, Aa, la, ca, kb, Ab, lb, cb, ea⟩ := h25.open
  rw [ea] at h25
  obtain rfl : vs = [.bool ka, .slice Aa la ca, .bool kb, .slice Ab lb cb] := by
   have e1 := (List.cons.inj hvs).1
   rw [show u 25 = _ from ea] at e1
   have e2 := congrArg Array.toList (Value.agg.inj e1)
   simpa using e2.symm
  have y0 := hbx.cell 0
  have y1 := hbx.cell 1
  have y2 := hbx.cell 2
  have y3 := hbx.cell 3
  simp only [List.getElem?_cons_zero, List.getElem?_cons_succ] at y0 y1 y2 y3
  go_wp2_with fail
  refine bodyPost_ret (v := .agg #[.bool ka, .slice Aa la ca, .bool kb, .slice Ab lb cb]) (by simp [results, Tryz.results31, go_sem, y0, y1, y2, y3]) rfl ⟨_, rfl, h25, hbel⟩
theorem rabs_any (n : Bool) (A : Option Addr) (c : Nat) (L : List Nat) (w : World) (hl : L.length ≤ 500000) (hL : RefR w w.heap.size n A c L) :
  Calls Tryz.prog 88 #[.agg #[.bool n, .slice A L.length c]] w fun e w' => ∃ k A c, e = .returned (.agg #[.bool k, .slice A L.length c]) ∧
   RefR w' w'.heap.size k A c L ∧ zR k L = ((zR n L).natAbs : Int) ∧ Below w.heap.size w w' := by
 have hM2 := fun W h1 => rsigned_trim false A c L W hl hL.top h1
 simp only [Bool.false_and] at hM2
 have HM2 := Lib.hid hM2
 clear hM2
 have hz : zR false L = ((zR n L).natAbs : Int) := by unfold zR; cases n <;> simp
 have HZ := Lib.hid hz
 clear hz
 generalize hl' : L.length = l at *
 have HLL := Lib.hid hl'
 clear hl'
 go_enter Tryz.func88, Tryz.ntmps88
 go_wp2_with fail
 refine (HM2.out _ (hL.row.up (below_a2 _ _ _))).mono ?_
 rintro e w1 ⟨rfl, hb1⟩
 have X := two hb1
 have hq3 := X.2.2.1
 have hq4 := X.2.2.2.1
 have hq5 := X.2.2.2.2.1
 have hq6 := X.2.2.2.2.2.1
 have HB1 := Lib.hid X.2.2.2.2.2.2.2
 have HR1 := Lib.hid (hL.up (upa2 HB1.out))
 clear X hb1
 go_wp2_with fail
 refine bodyPost_ret (v := .agg #[.bool false, .slice A l c]) (by simp [results, Tryz.results88, go_sem, hq3, hq4]) rfl
  ⟨_, _, _, rfl, ?_, by rw [← HZ.out], ((upa2 HB1.out).setCell (by simp) _).setCell (by simp) _⟩
 rw [setCell_size, setCell_size]
 exact ⟨HR1.out.row.box2 HB1.out (fun _ => by simp) (fun _ => by simp) _ _, HR1.out.lim, HR1.out.top, fun hk _ => by cases hk⟩
theorem rabs_fact {x : Int} {n : Nat} {a : Value} {w : World} (h1 : PRef x n a w) (hn : n ≤ 500000) :
  Calls Tryz.prog 88 #[a] w fun e w' => ∃ v, e = .returned v ∧ PRef (x.natAbs : Int) n v w' ∧ Below w.heap.size w w' := by
 obtain ⟨k, A, c, L, rfl, i1, rfl, l1⟩ := h1
 refine (rabs_any k A c L w (by omega) i1).mono ?_
 rintro e w' ⟨q, B, d, rfl, hi, hz, hb⟩
 exact ⟨_, rfl, ⟨q, B, d, L, rfl, hi, hz, by omega⟩, hb⟩
set_option maxHeartbeats 3200000
set_option maxRecDepth 20000
def AS.Two (v : Value) : Prop := ∃ (k : Bool) (A : Option Addr) (l c : Nat), v = .agg #[.bool k, .slice A l c]
def AS.Fact.two : AS.Fact := ⟨fun v _ => AS.Two v, fun _ _ _ _ h => h⟩
def rroundFL (x : Rat) (n : Nat) (W15 : World) : List (Nat × AS.Fact) := [(16, AS.Fact.ref (2) 5), (17, AS.Fact.ref (x.num) n), (18, AS.Fact.ref ((x.num.natAbs : Int)) n), (19, AS.Fact.ref (2 * (x.num.natAbs : Int)) (5 + n)), (20, AS.Fact.ref ((x.den : Int)) n), (21, AS.Fact.ref (2 * (x.num.natAbs : Int) + (x.den : Int)) (n + n + 6)), (22, AS.Fact.ref (2) 5), (23, AS.Fact.ref ((x.den : Int)) n), (24, AS.Fact.ref (2 * (x.den : Int)) (5 + n)), (25, AS.Fact.rquo (Int.tdiv (2 * (x.num.natAbs : Int) + (x.den : Int)) (2 * (x.den : Int))) (n + n + 6)), (15, AS.Fact.rquo (Int.tdiv (2 * (x.num.natAbs : Int) + (x.den : Int)) (2 * (x.den : Int))) (n + n + 6)), (26, AS.Fact.ref (Int.tdiv (2 * (x.num.natAbs : Int) + (x.den : Int)) (2 * (x.den : Int))) (n + n + 6)), (27, AS.Fact.two), (28, AS.Fact.is (.int .i64 0)), (6, AS.Fact.isBox 33 W15.heap.size), (7, AS.Fact.isBox 33 W15.heap.size), (8, AS.Fact.is (.int .i64 0))]
theorem rround_fact {x : Rat} {n : Nat} {v : Value} {w : World} (h : RRat x n v w) (hn3 : 5 ≤ n) (hn : n ≤ 4000) :
  Calls Tryz.prog 45 #[v] w fun e w' => ∃ v, e = .returned v ∧ PRef (rndQ x) (n + n + 6) v w' ∧ Below w.heap.size w w' := by
 obtain ⟨cc, hc⟩ : ∃ cc, cmpI x.num 0 = cc := ⟨_, rfl⟩
 obtain ⟨k, A, l, c, k', A', l', c', rfl⟩ := h.open
 have H1 := Lib.hid h
 clear h
 go_enter Tryz.func45, Tryz.ntmps45
 go_upto_region 1 with (fail)
 change Code.wp Tryz.prog _ _ _ ((w.alloc (.cells #[.bool k, .slice A l c, .bool k', .slice A' l' c'] 35)).alloc (.cells #[.bool false, .slice none 0 0] 33))
 obtain ⟨nb1, nb2, na⟩ := new2 w 35 [.bool k, .slice A l c, .bool k', .slice A' l' c'] 33 [.bool false, .slice none 0 0] lf4 lf2
 have nkeep := Keep.ofBelow na
 have nbel := na
 generalize (w.alloc (.cells #[.bool k, .slice A l c, .bool k', .slice A' l' c'] 35)).alloc (.cells #[.bool false, .slice none 0 0] 33) = W1 at *
 clear na
 have b1 := Lib.hid nb1
 have b2 := Lib.hid nb2
 clear nb1 nb2
 replace H1 := Lib.hid (H1.out.kept nkeep)
 clear nkeep
 have HB2 := Lib.hid nbel
 clear nbel
 obtain ⟨x1_0, x1_1, x1_2, x1_3, s1⟩ := b1.out.d4
 obtain ⟨x2_0, x2_1, z2_0, z2_1, s2⟩ := b2.out.e2
 have szb := HB2.out.size
 go_wp2_with fail
 refine (rparts_fact H1.out hn3).mono ?_
 rintro e W3 ⟨k1, A1, l1, c1, j1, B1, o1, e1, rfl, ha_, hc_, hb⟩
 replace b1 := hup b1 hb
 replace b2 := hup b2 hb
 replace H1 := Lib.hid (H1.out.kept (Keep.ofBelow hb))
 have nbel := below_then HB2.out hb HB2.out.size
 have HB4 := Lib.hid nbel
 clear nbel HB2 hb x1_0 x1_1 x1_2 x1_3 x2_0 x2_1 z2_0 z2_1 szb s1 s2
 obtain ⟨x1_0, x1_1, x1_2, x1_3, s1⟩ := b1.out.d4
 obtain ⟨x2_0, x2_1, z2_0, z2_1, s2⟩ := b2.out.e2
 have szb := HB4.out.size
 have HA := Lib.hid ha_
 have HB := Lib.hid hc_
 clear ha_ hc_
 go_upto_region 2 with (fail)
 have q5 := b1.out.lt
 have q6 := b2.out.lt
 change Code.wp Tryz.prog _ _ _ ((W3.alloc (.cells #[.bool k1, .slice A1 l1 c1] 33)).alloc (.cells #[.bool j1, .slice B1 o1 e1] 33))
 obtain ⟨nb3, nb4, na⟩ := new2 W3 33 [.bool k1, .slice A1 l1 c1] 33 [.bool j1, .slice B1 o1 e1] lf2 lf2
 have nb1 := b1.out.up na
 have nb2 := b2.out.up na
 have nkeep := Keep.ofBelow na
 have nbel := below_then HB4.out na HB4.out.size
 generalize (W3.alloc (.cells #[.bool k1, .slice A1 l1 c1] 33)).alloc (.cells #[.bool j1, .slice B1 o1 e1] 33) = W7 at *
 clear na x1_0 x1_1 x1_2 x1_3 x2_0 x2_1 z2_0 z2_1 szb s1 s2 b1 b2
 have b1 := Lib.hid nb1
 have b2 := Lib.hid nb2
 have b3 := Lib.hid nb3
 have b4 := Lib.hid nb4
 clear nb1 nb2 nb3 nb4
 replace H1 := Lib.hid (H1.out.kept nkeep)
 replace HA := Lib.hid (HA.out.kept nkeep)
 replace HB := Lib.hid (HB.out.kept nkeep)
 clear nkeep
 have HB8 := Lib.hid nbel
 clear nbel HB4
 obtain ⟨x1_0, x1_1, x1_2, x1_3, s1⟩ := b1.out.d4
 obtain ⟨x2_0, x2_1, z2_0, z2_1, s2⟩ := b2.out.e2
 obtain ⟨x3_0, x3_1, s3⟩ := b3.out.d2
 obtain ⟨x4_0, x4_1, s4⟩ := b4.out.d2
 have szb := HB8.out.size
 go_wp2_with fail
 refine (rof_fact (n := 2) (by decide) (by decide)).mono ?_
 rintro e W9 ⟨v2, rfl, hv2, hb⟩
 replace b1 := hup b1 hb
 replace b2 := hup b2 hb
 replace b3 := hup b3 hb
 replace b4 := hup b4 hb
 replace H1 := Lib.hid (H1.out.kept (Keep.ofBelow hb))
 replace HA := Lib.hid (HA.out.kept (Keep.ofBelow hb))
 replace HB := Lib.hid (HB.out.kept (Keep.ofBelow hb))
 have nbel := below_then HB8.out hb HB8.out.size
 have HB10 := Lib.hid nbel
 clear nbel HB8 hb x1_0 x1_1 x1_2 x1_3 x2_0 x2_1 z2_0 z2_1 x3_0 x3_1 x4_0 x4_1 szb s1 s2 s3 s4
 obtain ⟨x1_0, x1_1, x1_2, x1_3, s1⟩ := b1.out.d4
 obtain ⟨x2_0, x2_1, z2_0, z2_1, s2⟩ := b2.out.e2
 obtain ⟨x3_0, x3_1, s3⟩ := b3.out.d2
 obtain ⟨x4_0, x4_1, s4⟩ := b4.out.d2
 have szb := HB10.out.size
 obtain ⟨k3, A3, l3, c3, rfl⟩ := hv2.open
 have HO := Lib.hid hv2
 clear hv2
 go_upto_region 3 with (fail)
 have q11 := b1.out.lt
 have q12 := b2.out.lt
 have q13 := b3.out.lt
 have q14 := b4.out.lt
 change Code.wp Tryz.prog _ _ _ (W9.alloc (.cells #[.bool k3, .slice A3 l3 c3] 33))
 obtain ⟨nb5, na⟩ := new1 W9 33 [.bool k3, .slice A3 l3 c3] lf2
 have nb1 := b1.out.up na
 have nb2 := b2.out.up na
 have nb3 := b3.out.up na
 have nb4 := b4.out.up na
 have nkeep := Keep.ofBelow na
 have nbel := below_then HB10.out na HB10.out.size
 generalize W9.alloc (.cells #[.bool k3, .slice A3 l3 c3] 33) = W15 at *
 clear na x1_0 x1_1 x1_2 x1_3 x2_0 x2_1 z2_0 z2_1 x3_0 x3_1 x4_0 x4_1 szb s1 s2 s3 s4 b1 b2 b3 b4
 have b1 := Lib.hid nb1
 have b2 := Lib.hid nb2
 have b3 := Lib.hid nb3
 have b4 := Lib.hid nb4
 have b5 := Lib.hid nb5
 clear nb1 nb2 nb3 nb4 nb5
 replace H1 := Lib.hid (H1.out.kept nkeep)
 replace HA := Lib.hid (HA.out.kept nkeep)
 replace HB := Lib.hid (HB.out.kept nkeep)
 replace HO := Lib.hid (HO.out.kept nkeep)
 clear nkeep
 have HB16 := Lib.hid nbel
 clear nbel HB10
 obtain ⟨x1_0, x1_1, x1_2, x1_3, s1⟩ := b1.out.d4
 obtain ⟨x2_0, x2_1, z2_0, z2_1, s2⟩ := b2.out.e2
 obtain ⟨x3_0, x3_1, s3⟩ := b3.out.d2
 obtain ⟨x4_0, x4_1, s4⟩ := b4.out.d2
 obtain ⟨x5_0, x5_1, s5⟩ := b5.out.d2
 have szb := HB16.out.size
 refine AS.region_facts (rroundFL x n W15) (JFst W15 33) [[], [], [17], [16, 18], [], [19, 20], [], [], [22, 23], [21, 24], [25], [15], [15], [15], [], [], [26, 6], [27, 7], [28]] [16, 17] [[], [26, 6], [26, 6]] [0, 0, 2, 2, 0, 2, 0, 0, 2, 2, 2, 2, 2, 2, 0, 0, 2, 2, 2] [6, 7] (fun u => by simp only [rroundFL, AS.temps, List.map_cons, List.map_nil, fillL, List.setIfInBounds_toArray, List.set_cons_zero, List.set_cons_succ]; rfl) (by kernel_rfl) (by kernel_rfl) (JFst.st W15 33) (below_drew (Below.refl _ _)) ?_ ?_
 ·refine AS.sc rfl rfl rfl ?_ ?_
  ·intro k_ u w_ hk hJ hF K hK
   clear hF
   obtain rfl : k_ = 0 := Nat.le_zero.1 hk
   have hJ0 : Below W15.heap.size W15 w_ := hJ
   obtain ⟨y0, y1⟩ := ((b5.out).up hJ0).c2
   go_simp
   exact hK.out _ _ (Below.refl _ _) ((HO.out).kept (Keep.ofBelow hJ0)) trivial
  refine AS.sc rfl rfl rfl ?_ ?_
  ·intro k_ u w_ hk hJ hF K hK
   clear hF
   obtain rfl : k_ = 0 := Nat.le_zero.1 hk
   have hJ0 : Below W15.heap.size W15 w_ := hJ
   obtain ⟨y0, y1⟩ := ((b3.out).up hJ0).c2
   go_simp
   exact hK.out _ _ (Below.refl _ _) ((HA.out).kept (Keep.ofBelow hJ0)) trivial
  refine AS.sc rfl rfl rfl ?_ ?_
  ·intro k_ u w_ hk hJ hF K hK
   have h17 : PRef (x.num) n (u 17) w_ := AS.facts_get hF 17 (by simp)
   clear hF
   go_simp
   refine (rabs_fact h17 (by omega)).mono ?_
   rintro e w' ⟨v, rfl, hv, hb⟩
   exact hK.out _ _ hb (hv) trivial
  refine AS.sc rfl rfl rfl ?_ ?_
  ·intro k_ u w_ hk hJ hF K hK
   have h16 : PRef (2) 5 (u 16) w_ := AS.facts_get hF 16 (by simp)
   have h18 : PRef ((x.num.natAbs : Int)) n (u 18) w_ := AS.facts_get hF 18 (by simp)
   clear hF
   go_simp
   refine (rmul_fact h16 h18 (by omega) (by omega)).mono ?_
   rintro e w' ⟨v, rfl, hv, hb⟩
   exact hK.out _ _ hb (hv) trivial
  refine AS.sc rfl rfl rfl ?_ ?_
  ·intro k_ u w_ hk hJ hF K hK
   clear hF
   obtain rfl : k_ = 0 := Nat.le_zero.1 hk
   have hJ0 : Below W15.heap.size W15 w_ := hJ
   obtain ⟨y0, y1⟩ := ((b4.out).up hJ0).c2
   go_simp
   exact hK.out _ _ (Below.refl _ _) ((HB.out).kept (Keep.ofBelow hJ0)) trivial
  refine AS.sc rfl rfl rfl ?_ ?_
  ·intro k_ u w_ hk hJ hF K hK
   have h19 : PRef (2 * (x.num.natAbs : Int)) (5 + n) (u 19) w_ := AS.facts_get hF 19 (by simp)
   have h20 : PRef ((x.den : Int)) n (u 20) w_ := AS.facts_get hF 20 (by simp)
   clear hF
   go_simp
   refine (radd_fact h19 h20 (by omega) (by omega)).mono ?_
   rintro e w' ⟨v, rfl, hv, hb⟩
   exact hK.out _ _ hb (hv.more (by omega)) trivial
  refine AS.sc rfl rfl rfl ?_ ?_
  ·intro k_ u w_ hk hJ hF K hK
   clear hF
   obtain rfl : k_ = 0 := Nat.le_zero.1 hk
   have hJ0 : Below W15.heap.size W15 w_ := hJ
   obtain ⟨y0, y1⟩ := ((b5.out).up hJ0).c2
   go_simp
   exact hK.out _ _ (Below.refl _ _) ((HO.out).kept (Keep.ofBelow hJ0)) trivial
  refine AS.sc rfl rfl rfl ?_ ?_
  ·intro k_ u w_ hk hJ hF K hK
   clear hF
   obtain rfl : k_ = 0 := Nat.le_zero.1 hk
   have hJ0 : Below W15.heap.size W15 w_ := hJ
   obtain ⟨y0, y1⟩ := ((b4.out).up hJ0).c2
   go_simp
   exact hK.out _ _ (Below.refl _ _) ((HB.out).kept (Keep.ofBelow hJ0)) trivial
  refine AS.sc rfl rfl rfl ?_ ?_
  ·intro k_ u w_ hk hJ hF K hK
   have h22 : PRef (2) 5 (u 22) w_ := AS.facts_get hF 22 (by simp)
   have h23 : PRef ((x.den : Int)) n (u 23) w_ := AS.facts_get hF 23 (by simp)
   clear hF
   go_simp
   refine (rmul_fact h22 h23 (by omega) (by omega)).mono ?_
   rintro e w' ⟨v, rfl, hv, hb⟩
   exact hK.out _ _ hb (hv) trivial
  refine AS.sc rfl rfl rfl ?_ ?_
  ·intro k_ u w_ hk hJ hF K hK
   have h21 : PRef (2 * (x.num.natAbs : Int) + (x.den : Int)) (n + n + 6) (u 21) w_ := AS.facts_get hF 21 (by simp)
   have h24 : PRef (2 * (x.den : Int)) (5 + n) (u 24) w_ := AS.facts_get hF 24 (by simp)
   clear hF
   go_simp
   refine (rquo_fact (n := (n + n + 6)) (h21.more (by omega)) h24 (by omega) (by omega) (mul_ne (by decide) (den_ne x))).mono ?_
   rintro e w' ⟨k7, A7, l7, c7, k8, A8, l8, c8, rfl, hv, hb⟩
   exact hK.out _ _ hb (⟨_, _, _, _, _, rfl, hv⟩) trivial
  refine AS.sc rfl rfl rfl ?_ ?_
  ·intro k_ u w_ hk hJ hF K hK
   have h25 : RQuoP (Int.tdiv (2 * (x.num.natAbs : Int) + (x.den : Int)) (2 * (x.den : Int))) (n + n + 6) (u 25) w_ := AS.facts_get hF 25 (by simp)
   clear hF
   go_simp
   exact hK.out _ _ (Below.refl _ _) (h25) trivial
  refine AS.sc rfl rfl rfl ?_ ?_
  ·intro k_ u w_ hk hJ hF K hK
   have h15 : RQuoP (Int.tdiv (2 * (x.num.natAbs : Int) + (x.den : Int)) (2 * (x.den : Int))) (n + n + 6) (u 15) w_ := AS.facts_get hF 15 (by simp)
   clear hF
   obtain ⟨qa, kr, Ar, lr, cr, e0, hqa⟩ := h15
   simp only [e0] at hK ⊢
   go_simp
   exact hK.out _ _ (Below.refl _ _) (hqa) trivial
  refine AS.sc rfl rfl rfl ?_ ?_
  ·intro k_ u w_ hk hJ hF K hK
   have h15 : RQuoP (Int.tdiv (2 * (x.num.natAbs : Int) + (x.den : Int)) (2 * (x.den : Int))) (n + n + 6) (u 15) w_ := AS.facts_get hF 15 (by simp)
   clear hF
   obtain ⟨qa, kr, Ar, lr, cr, e0, hqa⟩ := h15
   simp only [e0] at hK ⊢
   go_simp
   exact hK.out _ _ (Below.refl _ _) (⟨_, _, _, _, rfl⟩) trivial
  refine AS.sc rfl rfl rfl ?_ ?_
  ·intro k_ u w_ hk hJ hF K hK
   have h15 : RQuoP (Int.tdiv (2 * (x.num.natAbs : Int) + (x.den : Int)) (2 * (x.den : Int))) (n + n + 6) (u 15) w_ := AS.facts_get hF 15 (by simp)
   clear hF
   obtain ⟨qa, kr, Ar, lr, cr, e0, hqa⟩ := h15
   simp only [e0] at hK ⊢
   go_simp
   exact hK.out _ _ (Below.refl _ _) (rfl) trivial
  refine AS.sc rfl rfl rfl ?_ ?_
  ·intro k_ u w_ hk hJ hF K hK
   clear hF
   obtain rfl : k_ = 0 := Nat.le_zero.1 hk
   have hJ0 : Below W15.heap.size W15 w_ := hJ
   go_simp
   exact hK.out _ _ (below_alloc_new _) (IsBox.new _ hJ0.size) ⟨rfl, by simp⟩
  refine AS.sc rfl rfl rfl ?_ ?_
  ·intro k_ u w_ hk hJ hF K hK
   clear hF
   obtain rfl : k_ = 0 := Nat.le_zero.1 hk
   have hJ0 : Below W15.heap.size W15 w_ := hJ
   go_simp
   exact hK.out _ _ (below_alloc_new _) (IsBox.new _ hJ0.size) ⟨rfl, by simp⟩
  refine AS.ss rfl rfl ?_ ?_
  ·intro u w_ hJ hAp hF K hK
   have h26 : PRef (Int.tdiv (2 * (x.num.natAbs : Int) + (x.den : Int)) (2 * (x.den : Int))) (n + n + 6) (u 26) w_ := AS.facts_get hF 26 (by simp)
   have h6 : IsBox 33 W15.heap.size (u 6) w_ := AS.facts_get hF 6 (by simp)
   clear hF
   obtain ⟨g, x_, y_, eg, hgB, bx⟩ := h6
   obtain ⟨k1, A1, l1, c1, e_⟩ := h26.open
   have y0 := bx.cell 0
   have y1 := bx.cell 1
   have z0 := bx.frozen 0
   have z1 := bx.frozen 1
   simp only [List.getElem?_cons_zero, List.getElem?_cons_succ] at y0 y1
   have hbel : Below W15.heap.size W15 w_ := hJ
   simp only [e_, eg] at hK ⊢
   go_simp
   exact hK.out undef _ ⟨(Below.setCell (p := ⟨g, 1, none⟩) (Below.setCell (p := ⟨g, 0, none⟩) hbel hgB (.bool k1)) hgB (.slice A1 l1 c1)), g, [.bool k1, .slice A1 l1 c1], by simp [e_, eg], hgB, (Bx.set2 bx (Leaf.bool k1) (Leaf.slice A1 l1 c1))⟩ (Keep.set2 (Keep.refl w_) bx (Leaf.bool k1) (Leaf.slice A1 l1 c1))
  refine AS.ss rfl rfl ?_ ?_
  ·intro u w_ hJ hAp hF K hK
   have h27 : AS.Two (u 27) := AS.facts_get hF 27 (by simp)
   have h7 : IsBox 33 W15.heap.size (u 7) w_ := AS.facts_get hF 7 (by simp)
   clear hF
   obtain ⟨g, x_, y_, eg, hgB, bx⟩ := h7
   obtain ⟨k1, A1, l1, c1, e_⟩ := h27
   have y0 := bx.cell 0
   have y1 := bx.cell 1
   have z0 := bx.frozen 0
   have z1 := bx.frozen 1
   simp only [List.getElem?_cons_zero, List.getElem?_cons_succ] at y0 y1
   obtain ⟨hbel, g2, vs, hvs, hg2, bx2⟩ := hJ
   have e7 : u 6 = .pointer (some ⟨g2, 0, none⟩) := (List.cons.inj (List.cons.inj hvs).2).1
   have hne : g ≠ g2 := by
    intro h
    refine hAp 6 (by simp) 7 (by simp) (by decide) ?_
    rw [e7, eg, h]
   clear e7
   simp only [e_, eg] at hK ⊢
   go_simp
   exact hK.out undef _ ⟨(Below.setCell (p := ⟨g, 1, none⟩) (Below.setCell (p := ⟨g, 0, none⟩) hbel hgB (.bool k1)) hgB (.slice A1 l1 c1)), g2, vs, hvs, hg2, Bx.far (Bx.far bx2 hne 0 (.bool k1)) hne 1 (.slice A1 l1 c1)⟩ (Keep.set2 (Keep.refl w_) bx (Leaf.bool k1) (Leaf.slice A1 l1 c1))
  refine AS.sc rfl rfl rfl ?_ ?_
  ·intro k_ u w_ hk hJ hF K hK
   have h28 : u 28 = .int .i64 0 := AS.facts_get hF 28 (by simp)
   clear hF
   simp only [h28] at hK ⊢
   clear h28
   go_simp
   exact hK.out _ _ (Below.refl _ _) (rfl) trivial
  exact AS.StepsOk.nil
 ·intro u W17 hJ9 hF
  have h26 : PRef (Int.tdiv (2 * (x.num.natAbs : Int) + (x.den : Int)) (2 * (x.den : Int))) (n + n + 6) (u 26) W17 := AS.facts_get hF 26 (by simp [rroundFL, AS.temps])
  clear hF
  obtain ⟨hbel, g, vs, hvs, hgB, bx⟩ := hJ9
  obtain ⟨ka, Aa, la, ca, ea⟩ := h26.open
  rw [ea] at h26
  have e7 : u 6 = .pointer (some ⟨g, 0, none⟩) := (List.cons.inj (List.cons.inj hvs).2).1
  obtain rfl : vs = [.bool ka, .slice Aa la ca] := by
   have e1 := (List.cons.inj hvs).1
   rw [show u 26 = _ from ea] at e1
   have e2 := congrArg Array.toList (Value.agg.inj e1)
   simpa using e2.symm
  clear hvs
  have HQ := Lib.hid h26
  have b6 := Lib.hid bx
  clear h26 bx
  rw [show u 6 = _ from e7]
  clear e7
  replace b1 := hup b1 hbel
  replace b2 := hup b2 hbel
  replace b3 := hup b3 hbel
  replace b4 := hup b4 hbel
  replace b5 := hup b5 hbel
  replace H1 := Lib.hid (H1.out.kept (Keep.ofBelow hbel))
  replace HA := Lib.hid (HA.out.kept (Keep.ofBelow hbel))
  replace HB := Lib.hid (HB.out.kept (Keep.ofBelow hbel))
  replace HO := Lib.hid (HO.out.kept (Keep.ofBelow hbel))
  have nbel := below_then HB16.out hbel HB16.out.size
  have HB18 := Lib.hid nbel
  clear nbel HB16 hbel x1_0 x1_1 x1_2 x1_3 x2_0 x2_1 z2_0 z2_1 x3_0 x3_1 x4_0 x4_1 x5_0 x5_1 szb s1 s2 s3 s4 s5
  obtain ⟨x1_0, x1_1, x1_2, x1_3, s1⟩ := b1.out.d4
  obtain ⟨x2_0, x2_1, z2_0, z2_1, s2⟩ := b2.out.e2
  obtain ⟨x3_0, x3_1, s3⟩ := b3.out.d2
  obtain ⟨x4_0, x4_1, s4⟩ := b4.out.d2
  obtain ⟨x5_0, x5_1, s5⟩ := b5.out.d2
  obtain ⟨x6_0, x6_1, s6⟩ := b6.out.d2
  have szb := HB18.out.size
  go_wp2_with fail
  refine (rsign_is HA.out hc).mono ?_
  rintro e W19 ⟨rfl, hb⟩
  replace b1 := hup b1 hb
  replace b2 := hup b2 hb
  replace b3 := hup b3 hb
  replace b4 := hup b4 hb
  replace b5 := hup b5 hb
  replace b6 := hup b6 hb
  replace H1 := Lib.hid (H1.out.kept (Keep.ofBelow hb))
  replace HA := Lib.hid (HA.out.kept (Keep.ofBelow hb))
  replace HB := Lib.hid (HB.out.kept (Keep.ofBelow hb))
  replace HO := Lib.hid (HO.out.kept (Keep.ofBelow hb))
  replace HQ := Lib.hid (HQ.out.kept (Keep.ofBelow hb))
  have nbel := below_then HB18.out hb HB18.out.size
  have HB20 := Lib.hid nbel
  clear nbel HB18 hb x1_0 x1_1 x1_2 x1_3 x2_0 x2_1 z2_0 z2_1 x3_0 x3_1 x4_0 x4_1 x5_0 x5_1 x6_0 x6_1 szb s1 s2 s3 s4 s5 s6
  obtain ⟨x1_0, x1_1, x1_2, x1_3, s1⟩ := b1.out.d4
  obtain ⟨x2_0, x2_1, z2_0, z2_1, s2⟩ := b2.out.e2
  obtain ⟨x3_0, x3_1, s3⟩ := b3.out.d2
  obtain ⟨x4_0, x4_1, s4⟩ := b4.out.d2
  obtain ⟨x5_0, x5_1, s5⟩ := b5.out.d2
  obtain ⟨x6_0, x6_1, s6⟩ := b6.out.d2
  have szb := HB20.out.size
  by_cases ha : x.num < 0
  ·obtain rfl : cc = -1 := by rw [← hc]; unfold cmpI; rw [if_pos ha]
   go_wp2_with fail
   refine (rneg_fact HQ.out (by omega)).mono ?_
   rintro e W21 ⟨v3, rfl, hv3, hb⟩
   replace b1 := hup b1 hb
   replace b2 := hup b2 hb
   replace b3 := hup b3 hb
   replace b4 := hup b4 hb
   replace b5 := hup b5 hb
   replace b6 := hup b6 hb
   replace H1 := Lib.hid (H1.out.kept (Keep.ofBelow hb))
   replace HA := Lib.hid (HA.out.kept (Keep.ofBelow hb))
   replace HB := Lib.hid (HB.out.kept (Keep.ofBelow hb))
   replace HO := Lib.hid (HO.out.kept (Keep.ofBelow hb))
   replace HQ := Lib.hid (HQ.out.kept (Keep.ofBelow hb))
   have nbel := below_then HB20.out hb HB20.out.size
   have HB22 := Lib.hid nbel
   clear nbel HB20 hb x1_0 x1_1 x1_2 x1_3 x2_0 x2_1 z2_0 z2_1 x3_0 x3_1 x4_0 x4_1 x5_0 x5_1 x6_0 x6_1 szb s1 s2 s3 s4 s5 s6
   obtain ⟨x1_0, x1_1, x1_2, x1_3, s1⟩ := b1.out.d4
   obtain ⟨x2_0, x2_1, z2_0, z2_1, s2⟩ := b2.out.e2
   obtain ⟨x3_0, x3_1, s3⟩ := b3.out.d2
   obtain ⟨x4_0, x4_1, s4⟩ := b4.out.d2
   obtain ⟨x5_0, x5_1, s5⟩ := b5.out.d2
   obtain ⟨x6_0, x6_1, s6⟩ := b6.out.d2
   have szb := HB22.out.size
   obtain ⟨k9, A9, l9, c9, rfl⟩ := hv3.open
   have HR := Lib.hid hv3
   clear hv3
   go_wp2_with fail
   have hkeep := (Keep.set2 (Keep.refl W21) b2.out (Leaf.bool k9) (Leaf.slice A9 l9 c9))
   have hbel := (Below.set2 (g := w.heap.size + 1) HB22.out (by first | omega | (simp; done) | (simp; omega)) (.bool k9) (.slice A9 l9 c9))
   refine bodyPost_ret (v := .agg #[.bool k9, .slice A9 l9 c9]) (by simp [results, Tryz.results45, go_sem, x2_0, x2_1]) rfl ⟨_, rfl, by rw [rndQ, ← rnear_eq x.num x.den (Int.natCast_pos.2 x.den_pos), if_pos (by omega)]; exact HR.out.kept hkeep, hbel⟩
  ·have hcc : decide (cc < 0) = false := by rw [← hc]; unfold cmpI; rw [if_neg ha]; split <;> decide
   go_wp2_with fail
   have hkeep := (Keep.set2 (Keep.refl W19) b2.out (Leaf.bool ka) (Leaf.slice Aa la ca))
   have hbel := (Below.set2 (g := w.heap.size + 1) HB20.out (by first | omega | (simp; done) | (simp; omega)) (.bool ka) (.slice Aa la ca))
   refine bodyPost_ret (v := .agg #[.bool ka, .slice Aa la ca]) (by simp [results, Tryz.results45, go_sem, x2_0, x2_1]) rfl ⟨_, rfl, by rw [rndQ, ← rnear_eq x.num x.den (Int.natCast_pos.2 x.den_pos), if_neg (by omega)]; exact HQ.out.kept hkeep, hbel⟩
theorem divInt1 (a : Int) : Rat.divInt a 1 = (a : Rat) := by
 have h := Rat.num_divInt_den (a : Rat)
 rw [Rat.num_intCast, Rat.den_intCast] at h
 exact h
set_option maxRecDepth 20000 in
set_option maxHeartbeats 3200000 in
theorem rint_fact {a : Int} {w : World} (ha : -9223372036854775808 ≤ a ∧ a ≤ 9223372036854775807) :
  Calls Tryz.prog 93 #[.int .i64 a] w fun e w' => ∃ v, e = .returned v ∧ RRat (a : Rat) 5 v w' ∧ Below w.heap.size w w' := by
 have HA : Hid (-9223372036854775808 ≤ a ∧ a ≤ 9223372036854775807) := ⟨ha.1, ha.2⟩
 clear ha
 go_enter Tryz.func93, Tryz.ntmps93
 go_upto_region 1 with (fail)
 change Code.wp Tryz.prog _ _ _ (w.alloc (.cells #[.bool false, .slice none 0 0, .bool false, .slice none 0 0] 35))
 obtain ⟨nb2, na⟩ := new1 w 35 [.bool false, .slice none 0 0, .bool false, .slice none 0 0] lf4
 have nkeep := Keep.ofBelow na
 have nbel := na
 generalize w.alloc (.cells #[.bool false, .slice none 0 0, .bool false, .slice none 0 0] 35) = W1 at *
 clear na
 have b2 := Lib.hid nb2
 clear nb2 nkeep
 have HB2 := Lib.hid nbel
 clear nbel
 obtain ⟨x20, x21, x22, x23, z20, z21, z22, z23, s2⟩ := b2.out.e4
 have szb := HB2.out.size
 go_wp2_with fail
 refine (rof_fact HA.out.1 HA.out.2).mono ?_
 rintro e W3 ⟨v, rfl, hv, hb⟩
 replace b2 := hup b2 hb
 have nbel := below_then HB2.out hb HB2.out.size
 have HB4 := Lib.hid nbel
 clear nbel HB2 hb x20 x21 x22 x23 z20 z21 z22 z23 szb s2
 obtain ⟨x20, x21, x22, x23, z20, z21, z22, z23, s2⟩ := b2.out.e4
 have szb := HB4.out.size
 obtain ⟨k1, A1, l1, c1, rfl⟩ := hv.open
 have HV := Lib.hid hv
 clear hv
 go_wp2_with fail
 refine (rof_fact (n := 1) (by decide) (by decide)).mono ?_
 rintro e W5 ⟨v, rfl, hv, hb⟩
 replace b2 := hup b2 hb
 replace HV := Lib.hid (HV.out.kept (Keep.ofBelow hb))
 have nbel := below_then HB4.out hb HB4.out.size
 have HB6 := Lib.hid nbel
 clear nbel HB4 hb x20 x21 x22 x23 z20 z21 z22 z23 szb s2
 obtain ⟨x20, x21, x22, x23, z20, z21, z22, z23, s2⟩ := b2.out.e4
 have szb := HB6.out.size
 obtain ⟨k2, A2, l2, c2, rfl⟩ := hv.open
 have HU := Lib.hid hv
 clear hv
 go_wp2_with fail
 refine (rquot_fact HV.out HU.out (by decide) (by decide)).mono ?_
 rintro e W7 ⟨v, rfl, hv, hb⟩
 replace b2 := hup b2 hb
 replace HV := Lib.hid (HV.out.kept (Keep.ofBelow hb))
 replace HU := Lib.hid (HU.out.kept (Keep.ofBelow hb))
 have nbel := below_then HB6.out hb HB6.out.size
 have HB8 := Lib.hid nbel
 clear nbel HB6 hb x20 x21 x22 x23 z20 z21 z22 z23 szb s2
 obtain ⟨x20, x21, x22, x23, z20, z21, z22, z23, s2⟩ := b2.out.e4
 have szb := HB8.out.size
 obtain ⟨k3, A3, l3, c3, k4, A4, l4, c4, rfl⟩ := hv.open
 have HR := Lib.hid hv
 clear hv
 go_wp2_with fail
 have hkeep := (Keep.set4 (Keep.refl W7) b2.out (Leaf.bool k3) (Leaf.slice A3 l3 c3) (Leaf.bool k4) (Leaf.slice A4 l4 c4))
 have hbel := (Below.set4 (g := w.heap.size) HB8.out (by first | omega | (simp; done) | (simp; omega)) (.bool k3) (.slice A3 l3 c3) (.bool k4) (.slice A4 l4 c4))
 refine bodyPost_ret (v := .agg #[.bool k3, .slice A3 l3 c3, .bool k4, .slice A4 l4 c4]) (by simp [results, Tryz.results93, go_sem, x20, x21, x22, x23]) rfl ⟨_, rfl, by rw [← divInt1]; exact HR.out.kept hkeep, hbel⟩
set_option maxHeartbeats 800000 in
theorem ramount_fact (n : Int) (w : World) : Calls Tryz.prog 49 #[.int .i64 n] w fun e w' => e = .returned (.bool (amt n)) ∧ Below w.heap.size w w' := by
 unfold amt
 by_cases h1 : (-1000000000000 : Int) ≤ n
 ·by_cases h2 : n ≤ 1000000000000
  ·rw [decide_eq_true h1, decide_eq_true h2]
   go_enter Tryz.func49, Tryz.ntmps49
   go_wp2
   go_ret
   exact ⟨rfl, Below.refl _ _⟩
  ·rw [decide_eq_true h1, decide_eq_false h2]
   have h3 : decide (n ≤ 1000000000000) = false := decide_eq_false h2
   clear h2
   go_enter Tryz.func49, Tryz.ntmps49
   go_wp2
   go_ret
   exact ⟨rfl, Below.refl _ _⟩
 ·rw [decide_eq_false h1]
  have h3 : decide ((-1000000000000 : Int) ≤ n) = false := decide_eq_false h1
  clear h1
  go_enter Tryz.func49, Tryz.ntmps49
  go_wp2
  go_ret
  exact ⟨rfl, Below.refl _ _⟩
theorem ramount_is {n : Int} {b : Bool} (hn : amt n = b) (w : World) : Calls Tryz.prog 49 #[.int .i64 n] w fun e w' => e = .returned (.bool b) ∧ Below w.heap.size w w' := hn ▸ ramount_fact n w
end Go.Proofs.YtgihmikeapbpkaaGreatDoor
