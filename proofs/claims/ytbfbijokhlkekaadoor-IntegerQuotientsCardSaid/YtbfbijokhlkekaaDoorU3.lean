/- Contracts of the functions that the statement reaches, part 3: what was proved of each, callees first. -/
import Derived.Deep.CutRange
import Derived.Deep.RegionHeld
import Derived.Below
import Derived.Deep.Draws
import Derived.BigRegion
import Derived.Laws.AppendOwnNone
import Derived.OwnWalk
import Derived.Test.YtbfbijokhlkekaaDoorU2
/- 'QuoRem' of integers. -/
namespace Go.Proofs.YtbfbijokhlkekaaDoor
open Go.RowKit

theorem tdiv_sign (n m : Bool) (a b q r : Nat) (h : q * b + r = a) (hr : r < b) :
    Int.tdiv (if n then -(a : Int) else a) (if m then -(b : Int) else b) = (if n != m then -(q : Int) else q) ∧ Int.tmod (if n then -(a : Int) else a) (if m then -(b : Int) else b) = (if n then -(r : Int) else r) := by
  have hq : a / b = q := Nat.div_eq_of_lt_le (by omega) (by rw [Nat.add_mul]; omega)
  have hm : a % b = r := by have := Nat.div_add_mod a b; rw [hq, Nat.mul_comm] at this; omega
  have e1 : Int.tdiv (a : Int) (b : Int) = (q : Int) := by rw [← hq]; rfl
  have e2 : Int.tmod (a : Int) (b : Int) = (r : Int) := by rw [← hm]; rfl
  cases n <;> cases m <;> simp [Int.neg_tdiv, Int.tdiv_neg, Int.neg_tmod, Int.tmod_neg, e1, e2]
theorem zI_signed (k : Bool) {Q : List Nat} (h0 : Q.length = 0 → val9 Q = 0) : zI (k && decide (0 < Q.length)) Q = if k then -(val9 Q : Int) else val9 Q := by
  unfold zI
  rcases Nat.eq_zero_or_pos Q.length with h | h
  · rw [h0 h]; simp
  · have e : decide (0 < Q.length) = true := by simpa using h
    rw [e, Bool.and_true]

theorem qr_final {w w4 : World} {p0 p1 p2 p3 : Value} {k1 k2 : Bool} {A1 A2 : Option Addr} {c1 c2 : Nat} {Q R : List Nat} (hS : St w w4 p0 p1 p2 p3 (.bool false) (.slice none 0 0) (.bool false) (.slice none 0 0))
    (h1 : IntR w4 w4.heap.size k1 A1 c1 Q) (h2 : IntR w4 w4.heap.size k2 A2 c2 R) (u1 v1 u2 v2 : Value) {W : World} (hW : W = setPair (setPair w4 (w.heap.size + 1 + 1) u1 v1) (w.heap.size + 1 + 1 + 1) u2 v2) :
    IntR W W.heap.size k1 A1 c1 Q ∧ IntR W W.heap.size k2 A2 c2 R ∧ Below w.heap.size w W := by
  subst hW
  have hS2 := hS.s2 u1 v1
  rw [setPair_size, setPair_size]
  exact ⟨IntR.pair hS2.b3 (IntR.pair hS.b2 h1 u1 v1) u2 v2, IntR.pair hS2.b3 (IntR.pair hS.b2 h2 u1 v1) u2 v2, (hS2.s3 u2 v2).bw⟩
theorem qr_final2 {w w4 : World} {p0 p1 p2 p3 : Value} {k1 k2 : Bool} {A1 A2 : Option Addr} {c1 c2 : Nat} {Q R : List Nat} (hS : St w w4 p0 p1 p2 p3 (.bool false) (.slice none 0 0) (.bool false) (.slice none 0 0))
    (h1 : IntR w4 w4.heap.size k1 A1 c1 Q) (h2 : IntR w4 w4.heap.size k2 A2 c2 R) (u1 v1 u2 v2 : Value) {W : World} (hW : W = setPair (setPair w4 (w.heap.size + 1 + 1 + 1) u2 v2) (w.heap.size + 1 + 1) u1 v1) :
    IntR W W.heap.size k1 A1 c1 Q ∧ IntR W W.heap.size k2 A2 c2 R ∧ Below w.heap.size w W := by
  subst hW
  have hS2 := hS.s3 u2 v2
  rw [setPair_size, setPair_size]
  exact ⟨IntR.pair hS2.b2 (IntR.pair hS.b3 h1 u2 v2) u1 v1, IntR.pair hS2.b2 (IntR.pair hS.b3 h2 u2 v2) u1 v1, (hS2.s2 u1 v1).bw⟩

theorem qr_post {w w4 W : World} {p0 p1 p2 p3 : Value} {n m : Bool} {A1 A2 : Option Addr} {c1 c2 : Nat} {Q R L M : List Nat} (hS : St w w4 p0 p1 p2 p3 (.bool false) (.slice none 0 0) (.bool false) (.slice none 0 0))
    (h1 : IntR w4 w4.heap.size (!(n == m) && decide (0 < Q.length)) A1 c1 Q) (h2 : IntR w4 w4.heap.size (n && decide (0 < R.length)) A2 c2 R) {u1 v1 u2 v2 : Value}
    (hW : W = setPair (setPair w4 (w.heap.size + 1 + 1) u1 v1) (w.heap.size + 1 + 1 + 1) u2 v2 ∨ W = setPair (setPair w4 (w.heap.size + 1 + 1 + 1) u2 v2) (w.heap.size + 1 + 1) u1 v1)
    (hv : val9 Q * val9 M + val9 R = val9 L) (hlt : val9 R < val9 M) {l : Nat} (hq : Q.length ≤ l) (hr : R.length ≤ l + 1) {lq lr : Nat} (hlq : Q.length = lq) (hlr : R.length = lr) :
    ∃ k1 B1 d1 Q' k2 B2 d2 R', Ending.returned (.tuple #[.agg #[.bool (!(n == m) && decide (0 < lq)), .slice A1 lq c1], .agg #[.bool (n && decide (0 < lr)), .slice A2 lr c2], .int .i64 0]) = Ending.returned (.tuple #[.agg #[.bool k1, .slice B1 (List.length Q') d1], .agg #[.bool k2, .slice B2 (List.length R') d2], .int .i64 0]) ∧
      IntR W W.heap.size k1 B1 d1 Q' ∧ IntR W W.heap.size k2 B2 d2 R' ∧ zI k1 Q' = Int.tdiv (zI n L) (zI m M) ∧ zI k2 R' = Int.tmod (zI n L) (zI m M) ∧ List.length Q' ≤ l ∧ List.length R' ≤ l + 1 ∧ Below w.heap.size w W := by
  subst hlq
  subst hlr
  have hf : IntR W W.heap.size (!(n == m) && decide (0 < Q.length)) A1 c1 Q ∧ IntR W W.heap.size (n && decide (0 < R.length)) A2 c2 R ∧ Below w.heap.size w W := by
    rcases hW with hW | hW
    · exact qr_final hS h1 h2 _ _ _ _ hW
    · exact qr_final2 hS h1 h2 _ _ _ _ hW
  have hz := tdiv_sign n m (val9 L) (val9 M) (val9 Q) (val9 R) hv hlt
  exact ⟨_, A1, c1, Q, _, A2, c2, R, rfl, hf.1, hf.2.1, by rw [zI_signed _ val9_nil]; exact hz.1.symm, by rw [zI_signed _ val9_nil]; exact hz.2.symm, hq, hr, hf.2.2⟩

set_option maxRecDepth 20000 in
set_option maxHeartbeats 3200000 in
theorem quoRem_zero (n m : Bool) (A A' : Option Addr) (c c' : Nat) (L : List Nat) (w : World) :
    Calls Tryd.prog 34 #[.agg #[.bool n, .slice A L.length c], .agg #[.bool m, .slice A' 0 c']] w fun e w' => e = .returned (.tuple #[.agg #[.bool false, .slice none 0 0], .agg #[.bool false, .slice none 0 0], .int .i64 10]) ∧ Below w.heap.size w w' := by
  generalize L.length = l at *
  go_enter Tryd.func34, Tryd.ntmps34
  go_wp2
  refine bodyPost_ret (v := .tuple #[.agg #[.bool false, .slice none 0 0], .agg #[.bool false, .slice none 0 0], .int .i64 10]) (by simp [results, Tryd.results34, go_sem]) rfl ⟨rfl, ?_⟩
  exact (below_a2 w _ _).trans (Below.less (below_a2 _ _ _) (by simp; omega))

set_option maxRecDepth 20000 in
set_option maxHeartbeats 6400000 in
theorem quoRem_pos (n m : Bool) (A A' : Option Addr) (c c' : Nat) (L M : List Nat) (w : World) (hl : L.length ≤ 400000) (hml : M.length ≤ 400000) (hm0 : 0 < M.length)
    (hL : IntR w w.heap.size n A c L) (hM : IntR w w.heap.size m A' c' M) :
    Calls Tryd.prog 34 #[.agg #[.bool n, .slice A L.length c], .agg #[.bool m, .slice A' M.length c']] w fun e w' => ∃ k1 A1 c1 Q k2 A2 c2 R, e = .returned (.tuple #[.agg #[.bool k1, .slice A1 (List.length Q) c1], .agg #[.bool k2, .slice A2 (List.length R) c2], .int .i64 0]) ∧
      IntR w' w'.heap.size k1 A1 c1 Q ∧ IntR w' w'.heap.size k2 A2 c2 R ∧ zI k1 Q = Int.tdiv (zI n L) (zI m M) ∧ zI k2 R = Int.tmod (zI n L) (zI m M) ∧ List.length Q ≤ L.length ∧ List.length R ≤ L.length + 1 ∧ Below w.heap.size w w' := by
  have F := four_boxes w (.bool n) (.slice A L.length c) (.bool m) (.slice A' M.length c') (.bool false) (.slice none 0 0) (.bool false) (.slice none 0 0) 25 25 25 25
  have hdv := fun W h1 h2 => divide_any A A' c c' L M W hl hml hm0 hL.canon hM.canon h1 h2
  have HDV := Lib.hid hdv
  have hne : ((M.length : Int) == 0) = false := by rw [beq_eq_false_iff_ne]; omega
  clear hdv
  generalize hl' : L.length = l at *
  generalize hm' : M.length = l2 at *
  have HLL := Lib.hid hl'
  have HML := Lib.hid hm'
  clear hl' hm'
  go_enter Tryd.func34, Tryd.ntmps34
  go_upto_region 3 with (fail)
  change Code.wp Tryd.prog _ _ _ ((((w.alloc (.cells #[.bool n, .slice A l c] 25)).alloc (.cells #[.bool m, .slice A' l2 c'] 25)).alloc (.cells #[.bool false, .slice none 0 0] 25)).alloc (.cells #[.bool false, .slice none 0 0] 25))
  generalize (((w.alloc (.cells #[.bool n, .slice A l c] 25)).alloc (.cells #[.bool m, .slice A' l2 c'] 25)).alloc (.cells #[.bool false, .slice none 0 0] 25)).alloc (.cells #[.bool false, .slice none 0 0] 25) = W0 at *
  obtain ⟨b0, b1, b2, b3, hsz, hbw⟩ := F
  have S0 : St w W0 _ _ _ _ _ _ _ _ := ⟨b0, b1, b2, b3, hbw, by omega⟩
  have x0 := b0.c0
  have x1 := b0.c1
  have x2 := b1.c0
  have x3 := b1.c1
  go_wp2_with fail
  have rL := hL.row.up S0.bw
  have rM := hM.row.up S0.bw
  refine (HDV.out W0 rL rM).mono ?_
  rintro e w1 ⟨A1, c1, Q, A2, c2, R, rfl, rQ, rR, cQ, cR, hv, hlt, hlq, hlr, hb1⟩
  have S1 := S0.call hb1
  have hn1 : ¬ w.heap.size + 1 + 1 = w.heap.size := by omega
  have hn2 : ¬ w.heap.size + 1 + 1 + 1 = w.heap.size := by omega
  have hn3 : ¬ w.heap.size + 1 + 1 = w.heap.size + 1 := by omega
  have hn4 : ¬ w.heap.size + 1 + 1 + 1 = w.heap.size + 1 := by omega
  have hn5 : ¬ w.heap.size + 1 + 1 + 1 = w.heap.size + 1 + 1 := by omega
  have hn6 : ¬ w.heap.size + 1 + 1 = w.heap.size + 1 + 1 + 1 := by omega
  have x0 := S1.b0.c0
  have x1 := S1.b0.c1
  have x2 := S1.b1.c0
  have x3 := S1.b1.c1
  have y0 := S1.b2.c0
  have y1 := S1.b2.c1
  have y2 := S1.b3.c0
  have y3 := S1.b3.c1
  have z0 := S1.b2.f0
  have z1 := S1.b2.f1
  have z2 := S1.b3.f0
  have z3 := S1.b3.f1
  have HS1 := Lib.hid S1
  have HV := Lib.hid hv
  have HLT := Lib.hid hlt
  have RQ := Lib.hid rQ
  have RR := Lib.hid rR
  have HC := Lib.hid (below_drew (Below.refl w1.heap.size w1))
  clear S0 hb1 hbw hsz b0 b1 b2 b3 rL rM hv hlt S1 rQ rR
  generalize hlq' : List.length Q = lq at *
  generalize hlr' : List.length R = lr at *
  have HLQ := Lib.hid hlq'
  have HLR := Lib.hid hlr'
  clear hlq' hlr'
  go_wp2_with fail
  go_region_held3 (fun w' => w'.cell? ⟨w.heap.size, 0, none⟩ = some (.bool n) ∧ w'.cell? ⟨w.heap.size + 1, 0, none⟩ = some (.bool m)) (go_keep)
    (first
      | (go_at_call 42; (with_reducible refine (signed_any _ _ _ _ _).mono ?_); rintro e w4 ⟨rfl, hb4⟩; have HC9 := Lib.hid (below_then HC.out hb4 HC.out.size); clear HC; have HC := HC9; clear HC9 hb4 x0 x1 x2 x3 y0 y1 y2 y3 z0 z1 z2 z3; have S9 := HS1.out.call HC.out; have x0 := S9.b0.c0; have x1 := S9.b0.c1; have x2 := S9.b1.c0; have x3 := S9.b1.c1; have y0 := S9.b2.c0; have y1 := S9.b2.c1; have y2 := S9.b3.c0; have y3 := S9.b3.c1; have z0 := S9.b2.f0; have z1 := S9.b2.f1; have z2 := S9.b3.f0; have z3 := S9.b3.f1; clear S9))
  all_goals
    go_wp2
    have hS := HS1.out.call HC.out
    have hi1 : IntR w4 w4.heap.size (!(n == m) && decide (0 < lq)) A1 c1 Q := ⟨RQ.out.up HC.out, cQ, fun hk hR => by rw [← HLQ.out, hR] at hk; simp at hk⟩
    have hi2 : IntR w4 w4.heap.size (n && decide (0 < lr)) A2 c2 R := ⟨RR.out.up HC.out, cR, fun hk hR => by rw [← HLR.out, hR] at hk; simp at hk⟩
    refine bodyPost_ret (v := .tuple #[.agg #[.bool (!(n == m) && decide (0 < lq)), .slice A1 lq c1], .agg #[.bool (n && decide (0 < lr)), .slice A2 lr c2], .int .i64 0]) (by simp [results, Tryd.results34, go_sem, y0, y1, y2, y3]) rfl ?_
    rw [← HLQ.out] at hi1
    rw [← HLR.out] at hi2
    exact qr_post hS hi1 hi2 (by first | exact .inl rfl | exact .inr rfl) HV.out HLT.out (by rw [HLQ.out, ← HLL.out]; exact hlq) (by rw [HLR.out, ← HLL.out]; exact hlr) HLQ.out HLR.out
end Go.Proofs.YtbfbijokhlkekaaDoor

/- A region that draws its order, walked once: of each operation is said what its temporary then holds, as a fact that stays true while memory only grows. -/
namespace Go.Proofs.YtbfbijokhlkekaaDoor
open Go Go.RowKit

/-- What may be said of a value: it stays true while memory only grows. -/
structure Fact where
  p : Value → World → Prop
  st : ∀ v w w', Below w.heap.size w w' → p v w → p v w'
def Fact.triv : Fact := ⟨fun _ _ => True, fun _ _ _ _ _ => trivial⟩
def look : List (Nat × Fact) → Nat → Fact
  | [], _ => Fact.triv
  | (k, f) :: rest, d => bif Nat.beq k d then f else look rest d
def temps (FL : List (Nat × Fact)) : List Nat := FL.map (·.1)
def factOf (FL : List (Nat × Fact)) (dst : Option Nat) (v : Value) (w : World) : Prop := match dst with
  | none => True
  | some d => (look FL d).p v w
def Facts (FL : List (Nat × Fact)) (u : Nat → Value) (w : World) : List Nat → Prop
  | [] => True
  | d :: ds => (look FL d).p (u d) w ∧ Facts FL u w ds
theorem facts_mk {FL : List (Nat × Fact)} {u : Nat → Value} {w : World} {ds : List Nat} (h : ∀ d ∈ ds, (look FL d).p (u d) w) : Facts FL u w ds := by
  induction ds with
  | nil => trivial
  | cons d ds ih => exact ⟨h d (List.mem_cons_self ..), ih fun e he => h e (List.mem_cons_of_mem _ he)⟩
theorem facts_get {FL : List (Nat × Fact)} {u : Nat → Value} {w : World} {ds : List Nat} (h : Facts FL u w ds) (d : Nat) (hd : d ∈ ds) : (look FL d).p (u d) w := by
  induction ds with
  | nil => cases hd
  | cons e ds ih =>
    rcases List.mem_cons.1 hd with rfl | hd
    · exact h.1
    · exact ih h.2 hd
/-- The temporaries with the letters u in the places ds. -/
def fillL (u : Nat → Value) : List Nat → Array Value → Array Value
  | [], t => t
  | d :: ds, t => fillL u ds (t.setIfInBounds d (u d))
def upd (u : Nat → Value) (d : Option Nat) (v : Value) (n : Nat) : Value := match d with
  | none => u n
  | some d => if n = d then v else u n
theorem fillL_size (u : Nat → Value) (ds : List Nat) : ∀ t : Array Value, (fillL u ds t).size = t.size := by
  induction ds with
  | nil => intro t; rfl
  | cons d ds ih => intro t; rw [fillL, ih]; simp
theorem fillL_get (u : Nat → Value) (ds : List Nat) : ∀ (t : Array Value) (n : Nat), (fillL u ds t)[n]? = if n < t.size then (if n ∈ ds then some (u n) else t[n]?) else none := by
  induction ds with
  | nil => intro t n; by_cases h : n < t.size <;> simp [fillL, h]
  | cons d ds ih =>
    intro t n
    rw [fillL, ih]
    by_cases h : n < t.size
    · simp only [Array.size_setIfInBounds, h, if_true, List.mem_cons]
      by_cases h1 : n ∈ ds
      · simp [h1]
      · by_cases h2 : n = d
        · subst h2; simp [h1, h]
        · simp only [h1, h2, if_false, or_self]; rw [Array.getElem?_setIfInBounds_ne (Ne.symm h2)]
    · simp [h]
theorem fillL_upd (u : Nat → Value) (ds : List Nat) (t : Array Value) (d : Nat) (v : Value) (hd : d ∈ ds) : (fillL u ds t).setIfInBounds d v = fillL (upd u (some d) v) ds t := by
  apply Array.ext_getElem?
  intro n
  rw [Array.getElem?_setIfInBounds, fillL_get, fillL_get, fillL_size]
  by_cases h : n < t.size
  · by_cases h2 : d = n
    · subst h2; simp [h, hd, upd]
    · simp only [h, h2, if_true, if_false]
      by_cases h3 : n ∈ ds
      · simp [h3, upd, Ne.symm h2]
      · simp [h3]
  · simp only [h, if_false]
    by_cases h2 : d = n
    · subst h2; simp [h]
    · simp [h2]
theorem fillL_self (ds : List Nat) (t : Array Value) : fillL (fun d => t.getD d undef) ds t = t := by
  apply Array.ext_getElem?
  intro n
  rw [fillL_get]
  by_cases h : n < t.size
  · simp [h]
  · simp [h]

/-- Each fact that an operation asks for is that of an operation on which it waits, or is asked for by one; each waits for earlier ones alone; what is written is among the temporaries. -/
def anyChk (ops : Array Oper) (pt : List (List Nat)) (ds : List Nat) : Bool :=
  (List.range ops.size).all fun i => match ops[i]? with
    | none => true
    | some o => (o.after.all fun e => decide (e.on < i)) && (match o.dst with | some d => ds.contains d | none => true) &&
      (pt.getD i []).all fun d => o.after.any fun e => Region.binds .any e && ((match ops[e.on]? with | some o' => o'.dst == some d | none => false) || (pt.getD e.on []).contains d)
def allWritten (ops : Array Oper) (ds : List Nat) : Bool := ds.all fun d => ops.any fun o => o.dst == some d

theorem filter_less {p q : Nat → Bool} {i : Nat} (hpi : p i = true) (hqi : q i = false) (h : ∀ j, q j = true → p j = true) : ∀ l : List Nat, i ∈ l → (l.filter q).length < (l.filter p).length := by
  have hle : ∀ l : List Nat, (l.filter q).length ≤ (l.filter p).length := by
    intro l
    induction l with
    | nil => simp
    | cons x l ih =>
      rw [List.filter_cons, List.filter_cons]
      by_cases hq : q x = true
      · simp [hq, h x hq]; exact ih
      · by_cases hp : p x = true <;> simp [hq, hp] <;> omega
  intro l hl
  induction l with
  | nil => cases hl
  | cons x l ih =>
    rw [List.filter_cons, List.filter_cons]
    rcases List.mem_cons.1 hl with rfl | hl
    · simp [hpi, hqi]; have := hle l; omega
    · have := ih hl
      by_cases hq : q x = true
      · simp [hq, h x hq]; exact this
      · by_cases hp : p x = true <;> simp [hq, hp] <;> omega

section
variable {P : Program} {ops : Array Oper} {Q : Exit → Act → World → Prop} {FL : List (Nat × Fact)} {J : World → Prop} {t0 : Array Value} {df : List Deferred} {ds : List Nat}

/-- One operation: from what it waits for it leaves its own fact. -/
def StepOk (P : Program) (ops : Array Oper) (Q : Exit → Act → World → Prop) (FL : List (Nat × Fact)) (J : World → Prop) (t0 : Array Value) (df : List Deferred) (ds : List Nat) (o : Oper) (need : List Nat) : Prop :=
  ∀ (u : Nat → Value) (w : World), J w → Facts FL u w need → ∀ K : Act → World → Prop, Shut (∀ v w', J w' → Below w.heap.size w w' → factOf FL o.dst v w' → K ((⟨fillL u ds t0, df⟩ : Act).put o.dst v) w') →
    if Region.wanted o (yielded ops (fillL u ds t0)) = true then Oper.wp P o ⟨fillL u ds t0, df⟩ w K Q else K ((⟨fillL u ds t0, df⟩ : Act).put o.dst undef) w
def StepsOk (P : Program) (ops : Array Oper) (Q : Exit → Act → World → Prop) (FL : List (Nat × Fact)) (J : World → Prop) (t0 : Array Value) (df : List Deferred) (ds : List Nat) : List Oper → List (List Nat) → Prop
  | [], _ => True
  | o :: rest, [] => StepOk P ops Q FL J t0 df ds o [] ∧ StepsOk P ops Q FL J t0 df ds rest []
  | o :: rest, n :: ns => StepOk P ops Q FL J t0 df ds o n ∧ StepsOk P ops Q FL J t0 df ds rest ns
theorem steps_at : ∀ (l : List Oper) (pt : List (List Nat)), StepsOk P ops Q FL J t0 df ds l pt → ∀ i o, l[i]? = some o → StepOk P ops Q FL J t0 df ds o (pt.getD i []) := by
  intro l
  induction l with
  | nil => intro pt _ i o h; simp at h
  | cons x l ih =>
    intro pt hs i o h
    cases pt with
    | nil =>
      cases i with
      | zero => simp at h; subst h; exact hs.1
      | succ i => have := ih [] hs.2 i o (by simpa using h); simpa using this
    | cons n ns =>
      cases i with
      | zero => simp at h; subst h; exact hs.1
      | succ i => have := ih ns hs.2 i o (by simpa using h); simpa using this

def Written (ops : Array Oper) (listed : Array Bool) (d : Nat) : Prop := ∃ j o', listed.getD j false = true ∧ ops[j]? = some o' ∧ o'.dst = some d
structure Inv (ops : Array Oper) (FL : List (Nat × Fact)) (J : World → Prop) (t0 : Array Value) (df : List Deferred) (ds : List Nat) (pt : List (List Nat)) (listed : Array Bool) (a : Act) (w : World) : Prop where
  j : J w
  fr : ∃ u, a = ⟨fillL u ds t0, df⟩ ∧ ∀ d, Written ops listed d → (look FL d).p (u d) w
  cl : ∀ i, listed.getD i false = true → ∀ d ∈ pt.getD i [], Written ops listed d
  sz : listed.size = ops.size

theorem Written.more {listed : Array Bool} {d i : Nat} (h : Written ops listed d) : Written ops (listed.setIfInBounds i true) d := by
  obtain ⟨j, o', h1, h2, h3⟩ := h
  exact ⟨j, o', getD_set_true h1, h2, h3⟩

theorem anyChk_spec {pt : List (List Nat)} (h : anyChk ops pt ds = true) {i : Nat} {o : Oper} (ho : ops[i]? = some o) :
    (∀ e ∈ o.after, e.on < i) ∧ (∀ d, o.dst = some d → d ∈ ds) ∧ (∀ d ∈ pt.getD i [], ∃ e ∈ o.after, Region.binds .any e = true ∧ ((∃ o', ops[e.on]? = some o' ∧ o'.dst = some d) ∨ d ∈ pt.getD e.on [])) := by
  have hlt : i < ops.size := (Array.getElem?_eq_some_iff.1 ho).1
  unfold anyChk at h
  rw [List.all_eq_true] at h
  have h1 := h i (List.mem_range.2 hlt)
  rw [ho] at h1
  simp only [Bool.and_eq_true] at h1
  obtain ⟨⟨ha, hb⟩, hc⟩ := h1
  refine ⟨fun e he => ?_, fun d hd => ?_, fun d hd => ?_⟩
  · rw [Array.all_eq_true_iff_forall_mem] at ha
    exact of_decide_eq_true (ha e he)
  · rw [hd] at hb
    simpa using hb
  · rw [List.all_eq_true] at hc
    have h2 := hc d hd
    rw [Array.any_eq_true] at h2
    obtain ⟨k, hk, h3⟩ := h2
    rw [Bool.and_eq_true, Bool.or_eq_true] at h3
    refine ⟨o.after[k], Array.getElem_mem _, h3.1, ?_⟩
    rcases h3.2 with h4 | h4
    · left
      cases h5 : ops[(o.after[k]).on]? with
      | none => rw [h5] at h4; cases h4
      | some o' => rw [h5] at h4; exact ⟨o', rfl, by simpa using h4⟩
    · right; simpa using h4

theorem put_fill (u : Nat → Value) (o : Oper) (v : Value) (hd : ∀ d, o.dst = some d → d ∈ ds) : (⟨fillL u ds t0, df⟩ : Act).put o.dst v = ⟨fillL (upd u o.dst v) ds t0, df⟩ := by
  cases h : o.dst with
  | none => rfl
  | some d =>
    show Act.mk ((fillL u ds t0).setIfInBounds d v) df = _
    rw [fillL_upd _ _ _ _ _ (hd d h)]

theorem inv_step {pt : List (List Nat)} (hchk : anyChk ops pt ds = true) (hs : StepsOk P ops Q FL J t0 df ds ops.toList pt) {listed : Array Bool} {a : Act} {w : World} (hI : Inv ops FL J t0 df ds pt listed a w) {i : Nat} (hi : i ∈ Region.ready .any ops listed) :
    wpOp P ops Q i (Inv ops FL J t0 df ds pt (listed.setIfInBounds i true)) a w := by
  obtain ⟨h0, o, ho, hall⟩ := mem_ready.1 hi
  obtain ⟨c1, c2, c3⟩ := anyChk_spec hchk ho
  obtain ⟨u, rfl, hfac⟩ := hI.fr
  have hlt : i < ops.size := (Array.getElem?_eq_some_iff.1 ho).1
  have hneed : ∀ d ∈ pt.getD i [], Written ops listed d := by
    intro d hd
    obtain ⟨e, he, hb, h1⟩ := c3 d hd
    have h2 := hall e he hb
    rcases h1 with ⟨o', h3, h4⟩ | h3
    · exact ⟨e.on, o', h2, h3, h4⟩
    · exact hI.cl e.on h2 d h3
  have hst := steps_at _ _ hs i o (by simpa using ho) u w hI.j (facts_mk fun d hd => hfac d (hneed d hd))
  refine wpOp_step ho (fun K' hK => hst K' ?_)
  intro v w' hj hb hf
  refine hK _ _ ⟨hj, ⟨upd u o.dst v, put_fill u o v c2, ?_⟩, ?_, by simpa using hI.sz⟩
  · rintro d ⟨j, o', h1, h2, h3⟩
    by_cases hd : o.dst = some d
    · rw [hd] at hf ⊢
      have e : upd u (some d) v d = v := by simp [upd]
      rw [e]; exact hf
    · have hw : Written ops listed d := by
        by_cases hij : i = j
        · subst hij
          rw [ho] at h2
          injection h2 with h2
          subst h2
          exact absurd h3 hd
        · rw [getD_set_ne false hij] at h1
          exact ⟨j, o', h1, h2, h3⟩
      have e : upd u o.dst v d = u d := by
        cases h : o.dst with
        | none => rfl
        | some d' => rw [h] at hd; simp only [upd]; rw [if_neg (fun h => hd (by rw [h]))]
      rw [e]
      exact (look FL d).st _ _ _ hb (hfac d hw)
  · intro k hk d hd
    by_cases hik : i = k
    · subst hik
      exact (hneed d hd).more
    · rw [getD_set_ne false hik] at hk
      exact (hI.cl k hk d hd).more

theorem ready_nil_all {pt : List (List Nat)} (hchk : anyChk ops pt ds = true) {listed : Array Bool} (hsz : listed.size = ops.size) (hr : Region.ready .any ops listed = []) : ∀ n i, i < n → i < ops.size → listed.getD i false = true := by
  intro n
  induction n with
  | zero => intro i h; omega
  | succ n ih =>
    intro i hin hi
    have hil : i < listed.size := by omega
    cases hv : listed.getD i false with
    | true => rfl
    | false =>
      exfalso
      have ho : ops[i]? = some ops[i] := by simp [hi]
      obtain ⟨c1, -, -⟩ := anyChk_spec hchk ho
      have : i ∈ Region.ready .any ops listed := by
        rw [mem_ready]
        refine ⟨by simp [hil] at hv ⊢; exact hv, _, ho, fun e he _ => ?_⟩
        have h1 := c1 e he
        exact ih e.on (by omega) (by omega)
      rw [hr] at this
      cases this

theorem wpAny_inv {pt : List (List Nat)} (hchk : anyChk ops pt ds = true) (hall : allWritten ops ds = true) (hs : StepsOk P ops Q FL J t0 df ds ops.toList pt)
    (hend : ∀ u w, J w → Facts FL u w ds → Q .normal ⟨fillL u ds t0, df⟩ w) :
    ∀ (fuel : Nat) (listed : Array Bool) (a : Act) (w : World), ((List.range ops.size).filter fun j => !listed.getD j true).length ≤ fuel → Inv ops FL J t0 df ds pt listed a w → wpAny P .any ops Q fuel listed a w := by
  have hfin : ∀ (listed : Array Bool) (a : Act) (w : World), Inv ops FL J t0 df ds pt listed a w → Region.ready .any ops listed = [] → Q .normal a w := by
    intro listed a w hI hr
    obtain ⟨u, rfl, hfac⟩ := hI.fr
    refine hend u w hI.j (facts_mk fun d hd => hfac d ?_)
    unfold allWritten at hall
    rw [List.all_eq_true] at hall
    have h1 := hall d hd
    rw [Array.any_eq_true] at h1
    obtain ⟨k, hk, h2⟩ := h1
    exact ⟨k, ops[k], ready_nil_all hchk hI.sz hr (k + 1) k (by omega) hk, by simp [hk], by simpa using h2⟩
  intro fuel
  induction fuel with
  | zero =>
    intro listed a w hc hI
    have hr : Region.ready .any ops listed = [] := by
      rw [List.eq_nil_iff_forall_not_mem]
      intro j hj
      obtain ⟨h0, o, ho, -⟩ := mem_ready.1 hj
      have hlt : j < ops.size := (Array.getElem?_eq_some_iff.1 ho).1
      have hm : j ∈ (List.range ops.size).filter fun j => !listed.getD j true := by
        rw [List.mem_filter]
        exact ⟨List.mem_range.2 hlt, by rw [h0]; rfl⟩
      have := List.length_pos_of_mem hm
      omega
    exact ⟨hr, hfin _ _ _ hI hr⟩
  | succ fuel ih =>
    intro listed a w hc hI
    refine ⟨fun hr => hfin _ _ _ hI hr, fun i hi => ?_⟩
    obtain ⟨h0, o, ho, -⟩ := mem_ready.1 hi
    have hlt : i < ops.size := (Array.getElem?_eq_some_iff.1 ho).1
    refine wpOp_mono (fun a' w' hI' => ih _ a' w' ?_ hI') (inv_step hchk hs hI hi)
    have := filter_less (p := fun j => !listed.getD j true) (q := fun j => !(listed.setIfInBounds i true).getD j true) (i := i) (by simp only [h0]; rfl) (by
      have hil : i < listed.size := by rw [hI.sz]; exact hlt
      simp [hil]) (fun j hj => by
      by_cases hij : i = j
      · subst hij
        exfalso
        have hil : i < listed.size := by rw [hI.sz]; exact hlt
        simp [hil] at hj
      · rw [getD_set_ne true hij] at hj; exact hj) (List.range ops.size) (List.mem_range.2 hlt)
    omega

theorem none_listed (n j : Nat) : (Array.replicate n false).getD j false = false := by
  by_cases h : j < n <;> simp [h]
/-- One operation, the temporaries written out. -/
def StepFr (P : Program) (ops : Array Oper) (Q : Exit → Act → World → Prop) (FL : List (Nat × Fact)) (J : World → Prop) (fr : (Nat → Value) → Array Value) (df : List Deferred) (o : Oper) (need : List Nat) : Prop :=
  ∀ (u : Nat → Value) (w : World), J w → Facts FL u w need → ∀ K : Act → World → Prop, Shut (∀ v w', J w' → Below w.heap.size w w' → factOf FL o.dst v w' → K ((⟨fr u, df⟩ : Act).put o.dst v) w') →
    if Region.wanted o (yielded ops (fr u)) = true then Oper.wp P o ⟨fr u, df⟩ w K Q else K ((⟨fr u, df⟩ : Act).put o.dst undef) w
def StepsFr (P : Program) (ops : Array Oper) (Q : Exit → Act → World → Prop) (FL : List (Nat × Fact)) (J : World → Prop) (fr : (Nat → Value) → Array Value) (df : List Deferred) : List Oper → List (List Nat) → Prop
  | [], _ => True
  | o :: rest, [] => StepFr P ops Q FL J fr df o [] ∧ StepsFr P ops Q FL J fr df rest []
  | o :: rest, n :: ns => StepFr P ops Q FL J fr df o n ∧ StepsFr P ops Q FL J fr df rest ns
theorem StepsFr.nil {fr : (Nat → Value) → Array Value} {pt : List (List Nat)} : StepsFr P ops Q FL J fr df [] pt := by cases pt <;> trivial
theorem StepsFr.cons {fr : (Nat → Value) → Array Value} {o : Oper} {rest : List Oper} {n : List Nat} {ns : List (List Nat)} (h : StepFr P ops Q FL J fr df o n) (hs : StepsFr P ops Q FL J fr df rest ns) : StepsFr P ops Q FL J fr df (o :: rest) (n :: ns) := ⟨h, hs⟩
theorem stepsFr_ok {fr : (Nat → Value) → Array Value} (hfr : ∀ u, fillL u ds t0 = fr u) : ∀ (l : List Oper) (pt : List (List Nat)), StepsFr P ops Q FL J fr df l pt → StepsOk P ops Q FL J t0 df ds l pt := by
  have h1 : ∀ o n, StepFr P ops Q FL J fr df o n → StepOk P ops Q FL J t0 df ds o n := by
    intro o n h u w hJ hF K hK
    rw [hfr] at hK ⊢
    exact h u w hJ hF K hK
  intro l
  induction l with
  | nil => intro pt _; cases pt <;> trivial
  | cons o l ih =>
    intro pt h
    cases pt with
    | nil => exact ⟨h1 _ _ h.1, ih _ h.2⟩
    | cons n ns => exact ⟨h1 _ _ h.1, ih _ h.2⟩
/-- A region that draws its order: each operation once. -/
theorem region_facts {id : Nat} {w : World} {opl : List Oper} (FL : List (Nat × Fact)) (J : World → Prop) (pt : List (List Nat)) {fr : (Nat → Value) → Array Value} (hfr : ∀ u, fillL u (temps FL) t0 = fr u)
    (hm : P.follows .mixedOrders = true) (hchk : anyChk opl.toArray pt (temps FL) = true) (hall : allWritten opl.toArray (temps FL) = true) (hJ : J w.drew)
    (hs : StepsFr P opl.toArray Q FL J fr df opl pt)
    (hend : ∀ u w, J w → Facts FL u w (temps FL) → Q .normal ⟨fr u, df⟩ w) : (Code.region id opl.toArray true).wp P Q ⟨t0, df⟩ w := by
  refine wp_region_any hm (wpAny_inv (ds := temps FL) (t0 := t0) (df := df) hchk hall (stepsFr_ok hfr _ _ hs) (fun u w hj hf => by rw [hfr]; exact hend u w hj hf) opl.toArray.size _ _ _ ?_ ⟨hJ, ⟨fun d => t0.getD d undef, by rw [fillL_self], ?_⟩, ?_, by simp⟩)
  · exact Nat.le_trans (List.length_filter_le _ _) (by simp)
  · rintro d ⟨j, o', h1, -, -⟩
    rw [none_listed] at h1; cases h1
  · intro i hi
    rw [none_listed] at hi; cases hi
end
end Go.Proofs.YtbfbijokhlkekaaDoor

/- 'both' of two texts of at most 600 bytes. -/
namespace Go.Proofs.YtbfbijokhlkekaaDoor
open Go.RowKit

set_option maxRecDepth 20000 in
set_option maxHeartbeats 6400000 in
theorem both_short (s t : ByteArray) (w : World) (hs : s.size ≤ 600) (ht : t.size ≤ 600) : Calls Tryd.prog 22 #[.string s, .string t] w (BothPost s t w) := by
  have F := four_boxes w (.bool false) (.slice none 0 0) (.bool false) (.slice none 0 0) (.bool false) (.slice none 0 0) (.bool false) (.slice none 0 0) 25 25 31 31
  have P1 := Lib.hid (fun W => parse_any s W (by omega))
  have P2 := Lib.hid (fun W => parse_any t W (by omega))
  have R1 := Lib.hid (fun W => rparse_any s W (by omega))
  have R2 := Lib.hid (fun W => rparse_any t W (by omega))
  go_enter Tryd.func22, Tryd.ntmps22
  go_wp2_with fail
  change Calls Tryd.prog 13 #[.string s] ((((w.alloc (.cells #[.bool false, .slice none 0 0] 25)).alloc (.cells #[.bool false, .slice none 0 0] 25)).alloc (.cells #[.bool false, .slice none 0 0] 31)).alloc (.cells #[.bool false, .slice none 0 0] 31)) _
  generalize (((w.alloc (.cells #[.bool false, .slice none 0 0] 25)).alloc (.cells #[.bool false, .slice none 0 0] 25)).alloc (.cells #[.bool false, .slice none 0 0] 31)).alloc (.cells #[.bool false, .slice none 0 0] 31) = W0 at *
  obtain ⟨b0, b1, b2, b3, hsz, hbw⟩ := F
  have S0 : St w W0 _ _ _ _ _ _ _ _ := ⟨b0, b1, b2, b3, hbw, by omega⟩
  clear b0 b1 b2 b3 hsz hbw
  refine (P1.out _).mono ?_
  rintro e w1 ⟨k1, A1, c1, L1, rfl, hi1, hl1, hok1, hno1, hb1⟩
  have S1 := S0.call hb1
  clear S0 hb1
  have x0 := S1.b0.c0
  have y0 := S1.b0.c1
  have p0 := S1.b0.f0
  have q0 := S1.b0.f1
  go_wp2_with fail
  change Calls Tryd.prog 13 #[.string t] (setPair w1 w.heap.size (.bool k1) (.slice A1 (List.length L1) c1)) _
  have S2 := S1.s0 (.bool k1) (.slice A1 (List.length L1) c1)
  have I1 := IntR.pair S1.b0 hi1 (.bool k1) (.slice A1 (List.length L1) c1)
  have hz1 := setPair_size w1 w.heap.size (.bool k1) (.slice A1 (List.length L1) c1)
  generalize setPair w1 w.heap.size (.bool k1) (.slice A1 (List.length L1) c1) = W1 at *
  rw [← hz1] at I1
  clear S1 hi1 x0 y0 p0 q0 hz1
  refine (P2.out _).mono ?_
  rintro e w2 ⟨k2, A2, c2, L2, rfl, hi2, hl2, hok2, hno2, hb2⟩
  have S3 := S2.call hb2
  have I2 := I1.lift1 hb2 (Nat.le_refl _)
  clear S2 hb2 I1
  have x0 := S3.b1.c0
  have y0 := S3.b1.c1
  have p0 := S3.b1.f0
  have q0 := S3.b1.f1
  go_wp2_with fail
  change Calls Tryd.prog 14 #[.string s] (setPair w2 (w.heap.size + 1) (.bool k2) (.slice A2 (List.length L2) c2)) _
  have S4 := S3.s1 (.bool k2) (.slice A2 (List.length L2) c2)
  have I3 := IntR.pair S3.b1 I2 (.bool k2) (.slice A2 (List.length L2) c2)
  have J3 := IntR.pair S3.b1 hi2 (.bool k2) (.slice A2 (List.length L2) c2)
  have hz1 := setPair_size w2 (w.heap.size + 1) (.bool k2) (.slice A2 (List.length L2) c2)
  generalize setPair w2 (w.heap.size + 1) (.bool k2) (.slice A2 (List.length L2) c2) = W2 at *
  rw [← hz1] at I3 J3
  clear S3 hi2 x0 y0 p0 q0 hz1 I2
  refine (R1.out _).mono ?_
  rintro e w3 ⟨k3, A3, c3, L3, rfl, hi3, hl3, hok3, hno3, hb3⟩
  have S5 := S4.call hb3
  have I4 := I3.lift1 hb3 (Nat.le_refl _)
  have J4 := J3.lift1 hb3 (Nat.le_refl _)
  clear S4 hb3 I3 J3
  have x0 := S5.b2.c0
  have y0 := S5.b2.c1
  have p0 := S5.b2.f0
  have q0 := S5.b2.f1
  go_wp2_with fail
  change Calls Tryd.prog 14 #[.string t] (setPair w3 (w.heap.size + 1 + 1) (.bool k3) (.slice A3 (List.length L3) c3)) _
  have S6 := S5.s2 (.bool k3) (.slice A3 (List.length L3) c3)
  have I5 := IntR.pair S5.b2 I4 (.bool k3) (.slice A3 (List.length L3) c3)
  have J5 := IntR.pair S5.b2 J4 (.bool k3) (.slice A3 (List.length L3) c3)
  have M5 := RefR.pair S5.b2 hi3 (.bool k3) (.slice A3 (List.length L3) c3)
  have hz1 := setPair_size w3 (w.heap.size + 1 + 1) (.bool k3) (.slice A3 (List.length L3) c3)
  generalize setPair w3 (w.heap.size + 1 + 1) (.bool k3) (.slice A3 (List.length L3) c3) = W3 at *
  rw [← hz1] at I5 J5 M5
  clear S5 hi3 x0 y0 p0 q0 hz1 I4 J4
  refine (R2.out _).mono ?_
  rintro e w4 ⟨k4, A4, c4, L4, rfl, hi4, hl4, hok4, hno4, hb4⟩
  have S7 := S6.call hb4
  have I6 := I5.lift1 hb4 (Nat.le_refl _)
  have J6 := J5.lift1 hb4 (Nat.le_refl _)
  have M6 := M5.lift hb4 (Nat.le_refl _)
  clear S6 hb4 I5 J5 M5
  have x0 := S7.b3.c0
  have y0 := S7.b3.c1
  have p0 := S7.b3.f0
  have q0 := S7.b3.f1
  go_wp2_with fail
  change Code.wp Tryd.prog _ _ _ (setPair w4 (w.heap.size + 1 + 1 + 1) (.bool k4) (.slice A4 (List.length L4) c4))
  have S8 := S7.s3 (.bool k4) (.slice A4 (List.length L4) c4)
  have I7 := IntR.pair S7.b3 I6 (.bool k4) (.slice A4 (List.length L4) c4)
  have J7 := IntR.pair S7.b3 J6 (.bool k4) (.slice A4 (List.length L4) c4)
  have M7 := RefR.pair S7.b3 M6 (.bool k4) (.slice A4 (List.length L4) c4)
  have N7 := RefR.pair S7.b3 hi4 (.bool k4) (.slice A4 (List.length L4) c4)
  have hz1 := setPair_size w4 (w.heap.size + 1 + 1 + 1) (.bool k4) (.slice A4 (List.length L4) c4)
  generalize setPair w4 (w.heap.size + 1 + 1 + 1) (.bool k4) (.slice A4 (List.length L4) c4) = W4 at *
  rw [← hz1] at I7 J7 M7 N7
  clear S7 x0 y0 p0 q0 hz1 I6 J6 M6 hi4
  have x0 := S8.b0.c0
  have y0 := S8.b0.c1
  have p0 := S8.b0.f0
  have q0 := S8.b0.f1
  have x1 := S8.b1.c0
  have y1 := S8.b1.c1
  have p1 := S8.b1.f0
  have q1 := S8.b1.f1
  have x2 := S8.b2.c0
  have y2 := S8.b2.c1
  have p2 := S8.b2.f0
  have q2 := S8.b2.f1
  have x3 := S8.b3.c0
  have y3 := S8.b3.c1
  have p3 := S8.b3.f0
  have q3 := S8.b3.f1
  have HS8 := Lib.hid S8
  have HI7 := Lib.hid I7
  have HJ7 := Lib.hid J7
  have HM7 := Lib.hid M7
  have HN7 := Lib.hid N7
  clear S8 I7 J7 M7 N7
  have n1 : ¬ w.heap.size = w.heap.size + 1 + 1 := by omega
  have n2 : ¬ w.heap.size = w.heap.size + 1 + 1 + 1 := by omega
  have n3 : ¬ w.heap.size + 1 = w.heap.size + 1 + 1 + 1 := by omega
  have n4 : ¬ w.heap.size + 1 + 1 = w.heap.size := by omega
  have n5 : ¬ w.heap.size + 1 + 1 + 1 = w.heap.size := by omega
  have n6 : ¬ w.heap.size + 1 + 1 + 1 = w.heap.size + 1 := by omega
  have ks0 := keep0
  have ks1 := keep1
  have hpost : ∀ (ok : Bool) (W : World), (ok = true → errOf s.data.toList = 0 ∧ errOf t.data.toList = 0) → St w W (.bool k1) (.slice A1 (List.length L1) c1) (.bool k2) (.slice A2 (List.length L2) c2) (.bool k3) (.slice A3 (List.length L3) c3) (.bool k4) (.slice A4 (List.length L4) c4) →
      IntR W W.heap.size k1 A1 c1 L1 → IntR W W.heap.size k2 A2 c2 L2 → RefR W W.heap.size k3 A3 c3 L3 → RefR W W.heap.size k4 A4 c4 L4 →
      BothPost s t w (.returned (.tuple #[.agg #[.bool k1, .slice A1 (List.length L1) c1], .agg #[.bool k2, .slice A2 (List.length L2) c2], .agg #[.bool k3, .slice A3 (List.length L3) c3], .agg #[.bool k4, .slice A4 (List.length L4) c4], .bool ok])) W := by
    intro ok W hk hS h1 h2 h3 h4
    refine ⟨k1, A1, c1, L1, k2, A2, c2, L2, k3, A3, c3, L3, k4, A4, c4, L4, ok, rfl, h1, h2, h3, h4, hl1, hl2, hl3, hl4, fun h => ?_, hS.bw⟩
    obtain ⟨e1, e2⟩ := hk h
    exact ⟨e1, e2, (hok1.out e1).1, (hok1.out e1).2, (hok2.out e2).1, (hok2.out e2).2, (hok3.out e1).1, (hok3.out e1).2, (hok4.out e2).1, (hok4.out e2).2⟩
  have HP := Lib.hid hpost
  clear hpost hok1 hok2 hok3 hok4 hno1 hno2 hno3 hno4 hl1 hl2 hl3 hl4
  generalize errOf s.data.toList = er1 at *
  generalize errOf t.data.toList = er2 at *
  by_cases h1 : er1 = 0
  · by_cases h2 : er2 = 0
    · subst h1
      subst h2
      go_region_held3 (fun w' => w'.cell? ⟨w.heap.size, 0, none⟩ = some (.bool k1) ∧ w'.cell? ⟨w.heap.size, 1, none⟩ = some (.slice A1 (List.length L1) c1) ∧
        w'.cell? ⟨w.heap.size + 1, 0, none⟩ = some (.bool k2) ∧ w'.cell? ⟨w.heap.size + 1, 1, none⟩ = some (.slice A2 (List.length L2) c2) ∧
        w'.cell? ⟨w.heap.size + 1 + 1, 0, none⟩ = some (.bool k3) ∧ w'.cell? ⟨w.heap.size + 1 + 1, 1, none⟩ = some (.slice A3 (List.length L3) c3) ∧
        w'.cell? ⟨w.heap.size + 1 + 1 + 1, 0, none⟩ = some (.bool k4) ∧ w'.cell? ⟨w.heap.size + 1 + 1 + 1, 1, none⟩ = some (.slice A4 (List.length L4) c4)) (go_keep)
      (fail)
      all_goals
        go_wp2
        refine bodyPost_ret (v := .tuple #[.agg #[.bool k1, .slice A1 (List.length L1) c1], .agg #[.bool k2, .slice A2 (List.length L2) c2], .agg #[.bool k3, .slice A3 (List.length L3) c3], .agg #[.bool k4, .slice A4 (List.length L4) c4], .bool true]) (by simp [results, Tryd.results22, go_sem, x0, y0, x1, y1, x2, y2, x3, y3]) rfl ?_
        exact HP.out true _ (fun _ => ⟨trivial, trivial⟩) (St.last HS8.out) (IntR.last HS8.out HI7.out) (IntR.last HS8.out HJ7.out) (RefR.last HS8.out HM7.out) (RefR.last HS8.out HN7.out)
    · subst h1
      have g2 : ((er2 : Int) == 0) = false := by rw [beq_eq_false_iff_ne]; exact h2
      clear ks0 ks1
      go_region
      all_goals
        go_wp2
        refine bodyPost_ret (v := .tuple #[.agg #[.bool k1, .slice A1 (List.length L1) c1], .agg #[.bool k2, .slice A2 (List.length L2) c2], .agg #[.bool k3, .slice A3 (List.length L3) c3], .agg #[.bool k4, .slice A4 (List.length L4) c4], .bool false]) (by simp [results, Tryd.results22, go_sem, x0, y0, x1, y1, x2, y2, x3, y3]) rfl ?_
        exact HP.out false _ (fun h => absurd h Bool.false_ne_true) (St.last HS8.out) (IntR.last HS8.out HI7.out) (IntR.last HS8.out HJ7.out) (RefR.last HS8.out HM7.out) (RefR.last HS8.out HN7.out)
  · have g1 : ((er1 : Int) == 0) = false := by rw [beq_eq_false_iff_ne]; exact h1
    clear ks0 ks1
    go_region
    all_goals
      go_wp2
      refine bodyPost_ret (v := .tuple #[.agg #[.bool k1, .slice A1 (List.length L1) c1], .agg #[.bool k2, .slice A2 (List.length L2) c2], .agg #[.bool k3, .slice A3 (List.length L3) c3], .agg #[.bool k4, .slice A4 (List.length L4) c4], .bool false]) (by simp [results, Tryd.results22, go_sem, x0, y0, x1, y1, x2, y2, x3, y3]) rfl ?_
      exact HP.out false _ (fun h => absurd h Bool.false_ne_true) (St.last HS8.out) (IntR.last HS8.out HI7.out) (IntR.last HS8.out HJ7.out) (RefR.last HS8.out HM7.out) (RefR.last HS8.out HN7.out)

theorem both_any (s t : ByteArray) (w : World) : Calls Tryd.prog 22 #[.string s, .string t] w (BothPost s t w) := by
  by_cases h1 : 600 < s.size
  · exact both_long s t w (.inl h1)
  · by_cases h2 : 600 < t.size
    · exact both_long s t w (.inr h2)
    · exact both_short s t w (by omega) (by omega)
end Go.Proofs.YtbfbijokhlkekaaDoor

/- The product of limbs of four digits. -/
namespace Go.Proofs.YtbfbijokhlkekaaDoor

/-- All numbers of a row are limbs. -/
def Lim4 (L : List Nat) : Prop := ∀ d ∈ L, d < 10000
theorem Lim4.nth {L : List Nat} (h : Lim4 L) (k : Nat) : nth L k < 10000 := nth_all h (by omega) k
theorem Lim4.set {L : List Nat} (h : Lim4 L) (i : Nat) {x : Nat} (hx : x < 10000) : Lim4 (L.set i x) := fun d hd => by
  rcases List.mem_or_eq_of_mem_set hd with h1 | h1
  · exact h d h1
  · omega
theorem Lim4.take {L : List Nat} (h : Lim4 L) (n : Nat) : Lim4 (L.take n) := fun d hd => h d (List.mem_of_mem_take hd)
theorem Lim4.drop {L : List Nat} (h : Lim4 L) (n : Nat) : Lim4 (L.drop n) := fun d hd => h d (List.mem_of_mem_drop hd)

/-- One round of a product: x times the number j of B is added to place o + j, with a carry. -/
def mulRow4 (x o : Nat) (B M : List Nat) : Nat → List Nat × Nat
  | 0 => (M, 0)
  | j + 1 => ((mulRow4 x o B M j).1.set (o + j) ((nth (mulRow4 x o B M j).1 (o + j) + x * nth B j + (mulRow4 x o B M j).2) % 10000),
      (nth (mulRow4 x o B M j).1 (o + j) + x * nth B j + (mulRow4 x o B M j).2) / 10000)
theorem mulRow_succ4 (x o : Nat) (B M : List Nat) (j : Nat) : mulRow4 x o B M (j + 1) =
    ((mulRow4 x o B M j).1.set (o + j) ((nth (mulRow4 x o B M j).1 (o + j) + x * nth B j + (mulRow4 x o B M j).2) % 10000),
      (nth (mulRow4 x o B M j).1 (o + j) + x * nth B j + (mulRow4 x o B M j).2) / 10000) := rfl
theorem mul_lt_lim4 {x y : Nat} (hx : x < 10000) (hy : y < 10000) : x * y ≤ 99980001 := by
  have : x * y ≤ 9999 * 9999 := Nat.mul_le_mul (by omega) (by omega)
  omega
theorem mul_lt_limI4 {x y : Nat} (hx : x < 10000) (hy : y < 10000) : (x : Int) * (y : Int) ≤ 99980001 := by
  have h := mul_lt_lim4 hx hy
  have e : ((x * y : Nat) : Int) = (x : Int) * (y : Int) := by simp
  omega
theorem mul_nonnegI4 (x y : Nat) : 0 ≤ (x : Int) * (y : Int) := by
  have e : ((x * y : Nat) : Int) = (x : Int) * (y : Int) := by simp
  omega
theorem mulRow_ok4 {x o : Nat} {B M : List Nat} (hx : x < 10000) (hB : Lim4 B) (hM : Lim4 M) (j : Nat) :
    Lim4 (mulRow4 x o B M j).1 ∧ (mulRow4 x o B M j).2 < 10000 ∧ (mulRow4 x o B M j).1.length = M.length := by
  induction j with
  | zero => exact ⟨hM, by simp [mulRow4], rfl⟩
  | succ j ih =>
    obtain ⟨h1, h2, h3⟩ := ih
    have a := h1.nth (o + j)
    have b := mul_lt_lim4 hx (hB.nth j)
    rw [mulRow_succ4]
    exact ⟨h1.set _ (Nat.mod_lt _ (by omega)), by show _ / _ < _; omega, by simp [h3]⟩

/-- A product: after i rounds. -/
def mulSt4 (A B M : List Nat) : Nat → List Nat
  | 0 => M
  | i + 1 => (mulRow4 (nth A i) i B (mulSt4 A B M i) B.length).1.set (i + B.length) (mulRow4 (nth A i) i B (mulSt4 A B M i) B.length).2
theorem mulSt_succ4 (A B M : List Nat) (i : Nat) : mulSt4 A B M (i + 1) =
    (mulRow4 (nth A i) i B (mulSt4 A B M i) B.length).1.set (i + B.length) (mulRow4 (nth A i) i B (mulSt4 A B M i) B.length).2 := rfl
theorem mulSt_ok4 {A B M : List Nat} (hA : Lim4 A) (hB : Lim4 B) (hM : Lim4 M) (i : Nat) : Lim4 (mulSt4 A B M i) ∧ (mulSt4 A B M i).length = M.length := by
  induction i with
  | zero => exact ⟨hM, rfl⟩
  | succ i ih =>
    obtain ⟨a, b, c⟩ := mulRow_ok4 (o := i) (hA.nth i) hB ih.1 B.length
    rw [mulSt_succ4]
    exact ⟨a.set _ b, by simp [c, ih.2]⟩
theorem mulRow_val4 {x o : Nat} {B M : List Nat} (ho : o + B.length ≤ M.length) (j : Nat) (hj : j ≤ B.length) (hM : Lim4 M) (hB : Lim4 B) (hx : x < 10000) :
    valB 10000 (mulRow4 x o B M j).1 + 10000 ^ (o + j) * (mulRow4 x o B M j).2 = valB 10000 M + 10000 ^ o * (x * valB 10000 (B.take j)) := by
  induction j with
  | zero => simp [mulRow4, valB]
  | succ j ih =>
    replace ih := ih (by omega)
    have hl := (mulRow_ok4 (o := o) hx hB hM j).2.2
    rw [mulRow_succ4, valB_take_succ _ _ _ (by omega)]
    have hs := valB_set 10000 (mulRow4 x o B M j).1 (o + j) ((nth (mulRow4 x o B M j).1 (o + j) + x * nth B j + (mulRow4 x o B M j).2) % 10000) (by omega)
    generalize mulRow4 x o B M j = q at *
    obtain ⟨Q, y⟩ := q
    dsimp only at *
    have ht := Nat.div_add_mod (nth Q (o + j) + x * nth B j + y) 10000
    generalize (nth Q (o + j) + x * nth B j + y) % 10000 = r at *
    generalize (nth Q (o + j) + x * nth B j + y) / 10000 = c at *
    generalize valB 10000 (Q.set (o + j) r) = V at *
    generalize valB 10000 Q = VQ at *
    generalize valB 10000 M = VM at *
    generalize valB 10000 (B.take j) = VB at *
    generalize nth B j = bj at *
    generalize nth Q (o + j) = qj at *
    rw [← Nat.add_assoc, Nat.pow_succ]
    have e : (10000 : Nat) ^ (o + j) = 10000 ^ o * 10000 ^ j := Nat.pow_add _ _ _
    rw [e] at hs ih ⊢
    generalize (10000 : Nat) ^ o = po at *
    generalize (10000 : Nat) ^ j = pj at *
    have h1 : po * pj * (10000 * c + r) = po * pj * (qj + x * bj + y) := by rw [ht]
    clear ht e hl hj ho hx hB hM
    grind

/-- Behind the places that were written there are zeros. -/
theorem mulRow_high4 {x o : Nat} {B M : List Nat} (j k : Nat) (hk : o + j ≤ k) : nth (mulRow4 x o B M j).1 k = nth M k := by
  induction j with
  | zero => rfl
  | succ j ih => rw [mulRow_succ4]; rw [nth_set_ne (by omega)]; exact ih (by omega)
theorem mulSt_val4 {A B M : List Nat} (hA : Lim4 A) (hB : Lim4 B) (hM : Lim4 M) (hz : ∀ k, nth M k = 0) (hl : M.length = A.length + B.length) (h0 : valB 10000 M = 0) (i : Nat) (hi : i ≤ A.length) :
    valB 10000 (mulSt4 A B M i) = valB 10000 (A.take i) * valB 10000 B ∧ (∀ k, i + B.length ≤ k → nth (mulSt4 A B M i) k = 0) := by
  induction i with
  | zero => exact ⟨by simp [mulSt4, valB, h0], fun k _ => hz k⟩
  | succ i ih =>
    obtain ⟨ih1, ih2⟩ := ih (by omega)
    have hok := mulSt_ok4 hA hB hM i
    have hr := mulRow_val4 (x := nth A i) (o := i) (B := B) (M := mulSt4 A B M i) (by rw [hok.2]; omega) B.length (Nat.le_refl _) hok.1 hB (hA.nth i)
    have hro := mulRow_ok4 (x := nth A i) (o := i) (hA.nth i) hB hok.1 B.length
    have hh := mulRow_high4 (x := nth A i) (o := i) (B := B) (M := mulSt4 A B M i) B.length (i + B.length) (Nat.le_refl _)
    have hh2 := fun k hk => mulRow_high4 (x := nth A i) (o := i) (B := B) (M := mulSt4 A B M i) B.length k hk
    rw [ih2 _ (Nat.le_refl _)] at hh
    rw [mulSt_succ4, valB_take_succ _ _ _ (by omega)]
    have hs := valB_set 10000 (mulRow4 (nth A i) i B (mulSt4 A B M i) B.length).1 (i + B.length) (mulRow4 (nth A i) i B (mulSt4 A B M i) B.length).2 (by rw [hro.2.2, hok.2]; omega)
    refine ⟨?_, fun k hk => ?_⟩
    · rw [hh] at hs
      rw [List.take_of_length_le (Nat.le_refl _)] at hr
      generalize valB 10000 ((mulRow4 (nth A i) i B (mulSt4 A B M i) B.length).1.set (i + B.length) (mulRow4 (nth A i) i B (mulSt4 A B M i) B.length).2) = V at *
      generalize valB 10000 (mulRow4 (nth A i) i B (mulSt4 A B M i) B.length).1 = V1 at *
      generalize 10000 ^ (i + B.length) * (mulRow4 (nth A i) i B (mulSt4 A B M i) B.length).2 = V2 at *
      rw [Nat.mul_zero, Nat.add_zero] at hs
      rw [hs, hr, ih1, Nat.add_mul, Nat.mul_assoc]
    · rw [nth_set_ne (by omega), hh2 k (by omega)]
      exact ih2 k (by omega)
/-- The product of two rows. -/
theorem mul_val4 {A B : List Nat} (hA : Lim4 A) (hB : Lim4 B) : valB 10000 (mulSt4 A B (List.replicate (A.length + B.length) 0) A.length) = valB 10000 A * valB 10000 B := by
  have := (mulSt_val4 (M := List.replicate (A.length + B.length) 0) hA hB (fun d hd => by have := (List.mem_replicate.1 hd).2; omega) (nth_zeros _) (by simp) (valB_zeros _ _) A.length (Nat.le_refl _)).1
  rwa [List.take_of_length_le (Nat.le_refl _)] at this

end Go.Proofs.YtbfbijokhlkekaaDoor

/- The reference's 'mul'. -/
namespace Go.Proofs.YtbfbijokhlkekaaDoor
open Go.RowKit

set_option maxHeartbeats 1600000 in
theorem rmul_walk (A A' : Option Addr) (c c' : Nat) (L M : List Nat) (w : World) (hl : L.length ≤ 1000000) (hml : M.length ≤ 1000000)
    (hL : Lim4 L) (hM : Lim4 M) (hR : Row .i64 w w.heap.size A c L) (hR' : Row .i64 w w.heap.size A' c' M) :
    Calls Tryd.prog 58 #[.slice A L.length c, .slice A' M.length c'] w fun e w' =>
      e = .returned (.slice (some ⟨w.heap.size, 0, none⟩) (trimN (mulSt4 L M (List.replicate (L.length + M.length) 0) L.length) (L.length + M.length)) (L.length + M.length)) ∧
        Blk .i64 3 w' w.heap.size (mulSt4 L M (List.replicate (L.length + M.length) 0) L.length) ∧ Below w.heap.size w w' := by
  obtain ⟨i0, hi, hz0, hz1, hz2⟩ := info_parts info3
  have hZ : Lim4 (List.replicate (L.length + M.length) 0) := fun d hd => by have := (List.mem_replicate.1 hd).2; omega
  have hZl : (List.replicate (L.length + M.length) 0).length = L.length + M.length := by simp
  generalize hz : List.replicate (L.length + M.length) 0 = Z at *
  generalize hl' : L.length = l at *
  generalize hm' : M.length = m at *
  have HL := Lib.hid hl'
  have HM := Lib.hid hm'
  have HZ := Lib.hid hz
  have HZL := Lib.hid hZl
  clear hl' hm' hz hZl
  go_enter Tryd.func58, Tryd.ntmps58
  go_wp2_with (first
    | (refine wpList_make_zeros _ rfl (.tmp 14) (.tmp 14) 29 rfl 3 .i64 i0 8 Tryd.underlying29 hi hz0 hz1 hz2 .i64 .i64 _ _ (l + m) rfl rfl (by omega) (by omega) (by omega) (by omega) ?_; intro w1 hb1 hB1 hs1)
    | fail)
  have hb1' := hb1.out
  rw [HZ.out] at hb1'
  have hg := hb1'.lt
  clear hs1 hb1
  go_loopw [6] (fun iv wr => ∃ i : Nat, i ≤ l ∧ iv = .int .i64 i ∧ Blk .i64 3 wr w.heap.size (mulSt4 L M Z i) ∧ w1.grownBy wr (some w.heap.size)) (fun iv _ => l - (intOf iv).toNat)
  case atStart => exact ⟨0, Nat.zero_le _, rfl, hb1', grown_refl _ _⟩
  case round =>
    obtain ⟨i, hk, rfl, hb, hgr⟩ := hrel
    obtain ⟨h1, h2⟩ := mulSt_ok4 hL hM hZ i
    have HS := Lib.hid (mulSt_succ4 L M Z i)
    have h3 : (mulSt4 L M Z i).length = l + m := by rw [h2, HZL.out]
    clear h2
    generalize hs : mulSt4 L M Z i = S at *
    have HK := Lib.hid hs
    have H3 := Lib.hid h3
    clear hs h3
    by_cases hlt : i < l
    · obtain ⟨b, o, rfl, hbg, hcell⟩ := hR.spot (by rw [HL.out]; omega)
      have hx := hL.nth i
      have hcell2 := hcell.below hB1 hbg
      generalize hxx : nth L i = x at *
      have HX := Lib.hid hxx
      clear hcell hxx
      go_wp2
      have hbS := hb
      go_loopw [7, 8] (fun cv jv wq => ∃ j : Nat, j ≤ m ∧ jv = .int .i64 j ∧ cv = .int .i64 (mulRow4 x i M S j).2 ∧ Blk .i64 3 wq w.heap.size (mulRow4 x i M S j).1 ∧ w1.grownBy wq (some w.heap.size)) (fun _ jv _ => m - (intOf jv).toNat)
      case atStart => exact ⟨0, Nat.zero_le _, rfl, rfl, hbS, hgr⟩
      case round =>
        obtain ⟨j, hj, rfl, rfl, hbq, hgq⟩ := hrel
        obtain ⟨g1, g2, g3⟩ := mulRow_ok4 (o := i) hx hM h1 j
        have HS' := Lib.hid (mulRow_succ4 x i M S j)
        generalize hq : mulRow4 x i M S j = q at *
        have HQ := Lib.hid hq
        clear hq
        obtain ⟨Q, y⟩ := q
        dsimp only at *
        rw [H3.out] at g3
        have G3 := Lib.hid g3
        clear g3
        by_cases hjt : j < m
        · obtain ⟨b', o', rfl, hbg', hcell'⟩ := hR'.spot (by rw [HM.out]; omega)
          have hcy := ((hcell'.below hB1 hbg').grown hgq (by omega) (by intro e; injection e; omega)) j (by rw [HM.out]; exact hjt)
          have hcx := (hcell2.grown hgq (by omega) (by intro e; injection e; omega)) i (by rw [HL.out]; exact hlt)
          rw [HX.out] at hcx
          have hc := hbq.cell (i + j) (by rw [G3.out]; omega)
          have hfr := hbq.frozen (i + j)
          have b1 := g1.nth (i + j)
          have b2 := hM.nth j
          have b4 := mul_lt_limI4 hx b2
          have b5 := mul_nonnegI4 x (nth M j)
          clear hcell' hcell2
          go_wp2
          go_quiet (fail)
          go_wp2
          go_roundw
          case rel =>
            have E := HS'.out
            have e1 := (hbq.drewN nq).setI (i + j) (v := ((nth Q (i + j) : Int) + (x : Int) * (nth M j : Int) + (y : Int)) % 10000) (x := (nth Q (i + j) + x * nth M j + y) % 10000) (by simp)
            exact ⟨j + 1, by omega, by go_num, by rw [E]; simp, by rw [E]; exact e1, grown_set (grown_drewN hgq _) _ _⟩
          case measure => simp [intOf]; omega
        · obtain rfl : j = m := by omega
          have hc := hbq.cell (i + j) (by rw [G3.out]; omega)
          have hfr := hbq.frozen (i + j)
          go_wp2
          go_roundw
          case rel =>
            have E := HS.out
            rw [HM.out, HQ.out] at E
            exact ⟨i + 1, by omega, by go_num, by rw [E]; exact hbq.set_ _ _, grown_set hgq _ _⟩
          case measure => simp [intOf]; omega
    · obtain rfl : i = l := by omega
      have hT := rtrim_any (some ⟨w.heap.size, 0, none⟩) (i + m) S wr wr.heap.size (by rw [H3.out]; omega) (Row.ofBlk hb hb.lt (by rw [H3.out]; exact Nat.le_refl _))
      rw [H3.out] at hT
      have hB : Below w.heap.size w wr := grown_below hB1 hgr (Nat.le_refl _) hB1.size
      have hb9 := Lib.hid hb
      have HT := Lib.hid hT
      clear hT hb
      go_wp2_with fail
      refine HT.out.mono ?_
      rintro e w4 ⟨rfl, rfl⟩
      go_wp2_with fail
      go_ret
      have hk' := HK.out
      rw [hk']
      exact ⟨rfl, hb9.out, hB⟩

abbrev val4 (L : List Nat) : Nat := valB 10000 L
/-- The integer of the reference with a sign and limbs. -/
def zR (neg : Bool) (L : List Nat) : Int := if neg then -(val4 L : Int) else (val4 L : Int)

/-- The limbs that the reference's 'trim' leaves of a block, as they read behind later blocks. -/
theorem trim_pack4 {w : World} {g B c : Nat} {R : List Nat} (hb : Blk .i64 3 w g R) (hR : ∀ d ∈ R, d < 10000) (hg : g < B) (hc : R.length ≤ c) :
    ∃ L, L.length = trimN R R.length ∧ Row .i64 w B (some ⟨g, 0, none⟩) c L ∧ (∀ d ∈ L, d < 10000) ∧ (0 < L.length → nth L (L.length - 1) ≠ 0) ∧ val4 L = val4 R := by
  have htl := trimN_le R R.length
  have el : (R.take (trimN R R.length)).length = trimN R R.length := by rw [List.length_take]; omega
  refine ⟨R.take (trimN R R.length), el, (Row.ofBlk hb hg hc).take _, fun d hd => hR d (List.mem_of_mem_take hd), ?_, ?_⟩
  · rw [el]; intro h; rw [nth_take (by omega)]; exact trimN_top _ _ h
  · rw [val4, trimN_val _ _ _ (Nat.le_refl _), List.take_of_length_le (Nat.le_refl _)]
/-- Trimmed limbs stay as they are. -/
theorem trimN_same {L : List Nat} (h : 0 < L.length → nth L (L.length - 1) ≠ 0) : trimN L L.length = L.length := by
  rcases hl : L.length with _ | n
  · rfl
  · rw [trimN, if_neg]
    have := h (by omega)
    rw [hl] at this
    exact this

theorem rmul2 (A A' : Option Addr) (c c' : Nat) (L M : List Nat) (w : World) (hl : L.length ≤ 500000) (hml : M.length ≤ 500000)
    (hL : ∀ d ∈ L, d < 10000) (hM : ∀ d ∈ M, d < 10000) (hR : Row .i64 w w.heap.size A c L) (hR' : Row .i64 w w.heap.size A' c' M) :
    Calls Tryd.prog 58 #[.slice A L.length c, .slice A' M.length c'] w fun e w' => ∃ g c R, e = .returned (.slice (some ⟨g, 0, none⟩) R.length c) ∧
      Row .i64 w' w'.heap.size (some ⟨g, 0, none⟩) c R ∧ (∀ d ∈ R, d < 10000) ∧ (0 < R.length → nth R (R.length - 1) ≠ 0) ∧ val4 R = val4 L * val4 M ∧ R.length ≤ L.length + M.length ∧ Below w.heap.size w w' ∧ w.heap.size ≤ g := by
  refine (rmul_walk A A' c c' L M w (by omega) (by omega) hL hM hR hR').mono ?_
  rintro e w' ⟨rfl, hb, hbw⟩
  have hz : Lim4 (List.replicate (L.length + M.length) 0) := fun d hd => by have := (List.mem_replicate.1 hd).2; omega
  have hok := mulSt_ok4 hL hM hz L.length
  have hv := mul_val4 hL hM
  have hlen : (mulSt4 L M (List.replicate (L.length + M.length) 0) L.length).length = L.length + M.length := by rw [hok.2]; simp
  obtain ⟨R, h1, h2, h3, h3', h4⟩ := trim_pack4 (c := L.length + M.length) hb hok.1 hb.lt (by omega)
  rw [hlen] at h1
  have htl := trimN_le (mulSt4 L M (List.replicate (L.length + M.length) 0) L.length) (L.length + M.length)
  exact ⟨_, _, R, by rw [h1], h2, h3, h3', by rw [h4]; exact hv, by omega, hbw, Nat.le_refl _⟩

theorem zR_mul (n m : Bool) {L M R : List Nat} (h : val4 R = val4 L * val4 M) (h0 : R.length = 0 → val4 R = 0) : zR ((n != m) && decide (0 < R.length)) R = zR n L * zR m M := by
  have hc : ((val4 R : Nat) : Int) = (val4 L : Int) * (val4 M : Int) := by rw [h]; simp
  unfold zR
  generalize (val4 L : Int) = x at *
  generalize (val4 M : Int) = y at *
  rcases Nat.eq_zero_or_pos R.length with h1 | h1
  · have h2 := h0 h1
    rw [h2] at hc ⊢
    have e : (decide (0 < R.length)) = false := by rw [decide_eq_false_iff_not]; omega
    rw [e, Bool.and_false]
    cases n <;> cases m <;> simp <;> grind
  · have e : (decide (0 < R.length)) = true := by rw [decide_eq_true_iff]; omega
    rw [e, Bool.and_true, hc]
    cases n <;> cases m <;> simp <;> grind
theorem val4_nil {L : List Nat} (h : L.length = 0) : val4 L = 0 := by rw [List.eq_nil_of_length_eq_zero h]; rfl
end Go.Proofs.YtbfbijokhlkekaaDoor

/- The reference's 'Mul'. -/
namespace Go.Proofs.YtbfbijokhlkekaaDoor
open Go.RowKit

theorem rsigned_trim (neg : Bool) (A : Option Addr) (c : Nat) (L : List Nat) (w : World) {n : Nat} (hl : L.length ≤ n) (ht : 0 < L.length → nth L (L.length - 1) ≠ 0) (hR : Row .i64 w w.heap.size A c L) (hn : n ≤ 4000000 := by omega) :
    Calls Tryd.prog 44 #[.bool neg, .slice A L.length c] w fun e w' => e = .returned (.agg #[.bool (neg && decide (0 < L.length)), .slice A L.length c]) ∧ Below w.heap.size w w' := by
  have := rsigned_any neg A c L w (by omega) hR
  rwa [trimN_same ht] at this

set_option maxRecDepth 20000 in
set_option maxHeartbeats 3200000 in
theorem rmulI_any (n m : Bool) (A A' : Option Addr) (c c' : Nat) (L M : List Nat) (w : World) (hl : L.length ≤ 500000) (hml : M.length ≤ 500000)
    (hL : RefR w w.heap.size n A c L) (hM : RefR w w.heap.size m A' c' M) :
    Calls Tryd.prog 33 #[.agg #[.bool n, .slice A L.length c], .agg #[.bool m, .slice A' M.length c']] w fun e w' => ∃ k A c R, e = .returned (.agg #[.bool k, .slice A R.length c]) ∧
      RefR w' w'.heap.size k A c R ∧ zR k R = zR n L * zR m M ∧ R.length ≤ L.length + M.length ∧ Below w.heap.size w w' := by
  have hM2 := fun W h1 h2 => rmul2 A A' c c' L M W hl hml hL.lim hM.lim h1 h2
  have HM2 := Lib.hid hM2
  clear hM2
  generalize hl' : L.length = l at *
  generalize hm' : M.length = l2 at *
  have HLL := Lib.hid hl'
  have HML := Lib.hid hm'
  clear hl' hm'
  go_enter Tryd.func33, Tryd.ntmps33
  go_wp2
  have hne1 : ¬ w.heap.size = w.heap.size + 1 + 1 := by omega
  have hne2 : ¬ w.heap.size + 1 + 1 = w.heap.size := by omega
  go_region_held3 (fun w' => w'.cell? ⟨w.heap.size, 0, none⟩ = some (.bool n) ∧ w'.cell? ⟨w.heap.size, 1, none⟩ = some (.slice A l c) ∧
      w'.cell? ⟨w.heap.size + 1, 0, none⟩ = some (.bool m) ∧ w'.cell? ⟨w.heap.size + 1, 1, none⟩ = some (.slice A' l2 c')) (go_keep)
    (first
      | (go_at_call 58; refine (HM2.out _ (hL.row.up (below_drew (below_a3 _ _ _ _))) (hM.row.up (below_drew (below_a3 _ _ _ _)))).mono ?_; rintro e w1 ⟨g, c1, R, rfl, hr1, hlim1, htop1, hv1, hl1, hb1, _⟩; have HB1 := Lib.hid (three (below_undrew hb1)).2.2.2.2.2.2.2.2.2; have X := three (below_undrew hb1); have hq1 := X.1; have hq2 := X.2.1; have hq3 := X.2.2.1; have hq4 := X.2.2.2.1; have hq5 := X.2.2.2.2.1; have hq6 := X.2.2.2.2.2.1; have hq7 := X.2.2.2.2.2.2.1; have hq8 := X.2.2.2.2.2.2.2.1; have hq9 := X.2.2.2.2.2.2.2.2.1; clear X hb1)
      | (go_at_call 44; refine (rsigned_trim _ _ _ R _ hl1 htop1 hr1).mono ?_; rintro e w2 ⟨rfl, hb2⟩; have HB2 := Lib.hid (below_then HB1.out hb2 hq9); have HR2 := Lib.hid (hr1.below hb2); have hs2 := hb2.size; clear hq1 hq2 hq3 hq4 hq5 hq6 hq7 hq8 hr1 hb2; have X := three' HB2.out; have hq1 := X.1; have hq2 := X.2.1; have hq3 := X.2.2.1; have hq4 := X.2.2.2.1; have hq5 := X.2.2.2.2.1; have hq6 := X.2.2.2.2.2.1; have hq7 := X.2.2.2.2.2.2.1; have hq8 := X.2.2.2.2.2.2.2.1; clear X))
  all_goals
    go_wp2
    have hbw : Below w.heap.size w w2 := (below_a3 w _ _ _).trans (Below.less HB2.out (by omega))
    refine bodyPost_ret (v := .agg #[.bool (!(n == m) && decide (0 < R.length)), .slice (some ⟨g, 0, none⟩) R.length c1]) (by simp [results, Tryd.results33, go_sem, hq5, hq6]) rfl
      ⟨_, _, _, R, rfl, ?_, zR_mul n m hv1 val4_nil, hl1, (hbw.setCell (by simp; omega) _).setCell (by simp; omega) _⟩
    rw [setCell_size, setCell_size]
    refine ⟨(HR2.out.more hs2).box3 HB2.out (fun _ => by simp) (fun _ => by simp) _ _, hlim1, htop1, fun hk hR => ?_⟩
    rw [hR] at hk
    simp at hk
end Go.Proofs.YtbfbijokhlkekaaDoor

/- IntegerProducts: for every two texts the statement about Mul returns true. -/
namespace Go.Proofs.YtbfbijokhlkekaaDoor
open Go.RowKit

theorem txt_same {w w' : World} {B B' : Nat} {n m : Bool} {A A' : Option Addr} {c c' : Nat} {L M : List Nat} (hL : IntR w B n A c L) (hM : RefR w' B' m A' c' M) (h : zI n L = zR m M) : decI n (val9 L) = decI m (val4 M) := by
  have h1 : n = true → 0 < val9 L := fun h => Nat.pos_of_ne_zero (canon_pos hL.canon (List.length_pos_iff.2 (hL.sgn h)))
  have h2 : m = true → 0 < val4 M := fun h => Nat.pos_of_ne_zero (ref_pos hM (List.length_pos_iff.2 (hM.sgn h)))
  have h3 : n = m ∧ val9 L = val4 M := by
    unfold zI zR at h
    cases n <;> cases m <;> simp at h h1 h2 ⊢ <;> omega
  rw [h3.1, h3.2]
theorem same_true (n m : Bool) (A A' : Option Addr) (c c' : Nat) (L M : List Nat) (w : World) (hl : L.length ≤ 100000) (hml : M.length ≤ 1000000)
    (hL : IntR w w.heap.size n A c L) (hM : RefR w w.heap.size m A' c' M) (hz : zI n L = zR m M) (ht : Tab w.heap.size w) :
    Calls Tryd.prog 17 #[.agg #[.bool n, .slice A L.length c], .agg #[.bool m, .slice A' M.length c']] w fun e w' => e = .returned (.bool true) ∧ Below w.heap.size w w' := by
  have h := same_any n m A A' c c' L M w hl hml hL hM ht
  rw [txt_same hL hM hz, show (decI m (val4 M) == decI m (valB 10000 M)) = true by simp] at h
  exact h
/-- The integer that a good text stands for. -/
def textZ (l : List UInt8) : Int := if negOf l then -(numOf (restOf l) : Int) else (numOf (restOf l) : Int)
theorem textZ_I {l : List UInt8} {k : Bool} {L : List Nat} (h1 : k = negOf l) (h2 : val9 L = numOf (restOf l)) : zI k L = textZ l := by unfold zI textZ; rw [h1, h2]
theorem textZ_R {l : List UInt8} {k : Bool} {L : List Nat} (h1 : k = negOf l) (h2 : valB 10000 L = numOf (restOf l)) : zR k L = textZ l := by unfold zR textZ val4; rw [h1, h2]

set_option maxRecDepth 20000 in
set_option maxHeartbeats 12800000 in
theorem law_products (s t : ByteArray) (w : World) (htab : Tab w.heap.size w) :
    Calls Tryd.prog 6 #[.string s, .string t] w fun e w' => e = .returned (.bool true) ∧ Below w.heap.size w w' := by
  have HT := Lib.hid htab
  have HBO := Lib.hid (fun W => both_any s t W)
  clear htab
  go_enter Tryd.func6, Tryd.ntmps6
  go_wp2_with fail
  refine (awake_any w HT.out).mono ?_
  rintro e w1 ⟨rfl, hb1⟩
  go_wp2_with fail
  refine (HBO.out _).mono ?_
  rintro e w2 ⟨k1, A1, c1, L1, k2, A2, c2, L2, k3, A3, c3, L3, k4, A4, c4, L4, ok, rfl, I1, I2, M1, M2, hl1, hl2, hl3, hl4, hok, hb2⟩
  have hb12 := hb1.trans (Below.less hb2 hb1.size)
  clear hb1 hb2
  have F := four_boxes w2 (.bool k1) (.slice A1 (List.length L1) c1) (.bool k2) (.slice A2 (List.length L2) c2) (.bool k3) (.slice A3 (List.length L3) c3) (.bool k4) (.slice A4 (List.length L4) c4) 25 25 31 31
  cases ok
  · have HB12 := Lib.hid hb12
    clear hb12
    go_wp2_with fail
    go_ret
    exact ⟨rfl, HB12.out.trans (Below.less F.2.2.2.2.2 HB12.out.size)⟩
  · obtain ⟨e1, e2, q1, q2, q3, q4, q5, q6, q7, q8⟩ := hok rfl
    have HZ1 := Lib.hid (textZ_I q1 q2)
    have HZ2 := Lib.hid (textZ_I q3 q4)
    have HZ3 := Lib.hid (textZ_R q5 q6)
    have HZ4 := Lib.hid (textZ_R q7 q8)
    clear hok e1 e2 q1 q2 q3 q4 q5 q6 q7 q8
    go_wp2_with fail
    change Code.wp Tryd.prog _ _ _ ((((w2.alloc (.cells #[.bool k1, .slice A1 (List.length L1) c1] 25)).alloc (.cells #[.bool k2, .slice A2 (List.length L2) c2] 25)).alloc (.cells #[.bool k3, .slice A3 (List.length L3) c3] 31)).alloc (.cells #[.bool k4, .slice A4 (List.length L4) c4] 31))
    generalize (((w2.alloc (.cells #[.bool k1, .slice A1 (List.length L1) c1] 25)).alloc (.cells #[.bool k2, .slice A2 (List.length L2) c2] 25)).alloc (.cells #[.bool k3, .slice A3 (List.length L3) c3] 31)).alloc (.cells #[.bool k4, .slice A4 (List.length L4) c4] 31) = W at *
    obtain ⟨b0, b1, b2, b3, hsz, hbw⟩ := F
    have HI1 := Lib.hid (I1.up hbw)
    have HI2 := Lib.hid (I2.up hbw)
    have HM1 := Lib.hid (M1.up hbw)
    have HM2 := Lib.hid (M2.up hbw)
    have hWw := hb12.trans (Below.less hbw hb12.size)
    have HWW := Lib.hid hWw
    have HTW := Lib.hid (tab_up HT.out hWw)
    have hy0 := b0.c0
    have hy1 := b0.c1
    have hy2 := b1.c0
    have hy3 := b1.c1
    have hy4 := b2.c0
    have hy5 := b2.c1
    have hy6 := b3.c0
    have hy7 := b3.c1
    have hlt0 : w2.heap.size < W.heap.size := by omega
    have hlt1 : w2.heap.size + 1 < W.heap.size := by omega
    have hlt2 : w2.heap.size + 1 + 1 < W.heap.size := by omega
    have hlt3 : w2.heap.size + 1 + 1 + 1 < W.heap.size := by omega
    have HC := Lib.hid (below_drew (Below.refl W.heap.size W))
    clear b0 b1 b2 b3 hsz hbw I1 I2 M1 M2 hb12 hWw
    have hf0 := hy0
    have hf1 := hy1
    have hf2 := hy2
    have hf3 := hy3
    have hf4 := hy4
    have hf5 := hy5
    have hf6 := hy6
    have hf7 := hy7
    go_region_held3 (fun w' => w'.cell? ⟨w2.heap.size, 0, none⟩ = some (.bool k1) ∧ w'.cell? ⟨w2.heap.size, 1, none⟩ = some (.slice A1 (List.length L1) c1) ∧
        w'.cell? ⟨w2.heap.size + 1, 0, none⟩ = some (.bool k2) ∧ w'.cell? ⟨w2.heap.size + 1, 1, none⟩ = some (.slice A2 (List.length L2) c2) ∧
        w'.cell? ⟨w2.heap.size + 1 + 1, 0, none⟩ = some (.bool k3) ∧ w'.cell? ⟨w2.heap.size + 1 + 1, 1, none⟩ = some (.slice A3 (List.length L3) c3) ∧
        w'.cell? ⟨w2.heap.size + 1 + 1 + 1, 0, none⟩ = some (.bool k4) ∧ w'.cell? ⟨w2.heap.size + 1 + 1 + 1, 1, none⟩ = some (.slice A4 (List.length L4) c4)) (go_keep)
      (first
        | (go_at_call 32; (with_reducible refine (mul_any k1 k2 A1 A2 c1 c2 L1 L2 _ (by omega) (by omega) (HI1.out.up HC.out) (HI2.out.up HC.out)).mono ?_); rintro e w4 ⟨kx, Ax, cx, X, rfl, hix, hzx, hlx, hb4⟩; have HX := Lib.hid hix; have HZX := Lib.hid hzx; clear hix hzx; (try (have HY9 := Lib.hid (RefR.up HY.out hb4); clear HY; have HY := HY9; clear HY9)); have HC9 := Lib.hid (below_then HC.out hb4 HC.out.size); clear HC hf0 hf1 hf2 hf3 hf4 hf5 hf6 hf7; have HC := HC9; clear HC9; have hf0 := (below_atB (i := 0) HC.out hlt0).trans hy0; have hf1 := (below_atB (i := 1) HC.out hlt0).trans hy1; have hf2 := (below_atB (i := 0) HC.out hlt1).trans hy2; have hf3 := (below_atB (i := 1) HC.out hlt1).trans hy3; have hf4 := (below_atB (i := 0) HC.out hlt2).trans hy4; have hf5 := (below_atB (i := 1) HC.out hlt2).trans hy5; have hf6 := (below_atB (i := 0) HC.out hlt3).trans hy6; have hf7 := (below_atB (i := 1) HC.out hlt3).trans hy7; clear hb4)
        | (go_at_call 33; (with_reducible refine (rmulI_any k3 k4 A3 A4 c3 c4 L3 L4 _ (by omega) (by omega) (HM1.out.up HC.out) (HM2.out.up HC.out)).mono ?_); rintro e w4 ⟨ky, Ay, cy, Y, rfl, hiy, hzy, hly, hb4⟩; have HY := Lib.hid hiy; have HZY := Lib.hid hzy; clear hiy hzy; (try (have HX9 := Lib.hid (IntR.up HX.out hb4); clear HX; have HX := HX9; clear HX9)); have HC9 := Lib.hid (below_then HC.out hb4 HC.out.size); clear HC hf0 hf1 hf2 hf3 hf4 hf5 hf6 hf7; have HC := HC9; clear HC9; have hf0 := (below_atB (i := 0) HC.out hlt0).trans hy0; have hf1 := (below_atB (i := 1) HC.out hlt0).trans hy1; have hf2 := (below_atB (i := 0) HC.out hlt1).trans hy2; have hf3 := (below_atB (i := 1) HC.out hlt1).trans hy3; have hf4 := (below_atB (i := 0) HC.out hlt2).trans hy4; have hf5 := (below_atB (i := 1) HC.out hlt2).trans hy5; have hf6 := (below_atB (i := 0) HC.out hlt3).trans hy6; have hf7 := (below_atB (i := 1) HC.out hlt3).trans hy7; clear hb4)
        | (go_at_call 17; (first | (with_reducible refine (same_true kx ky Ax Ay cx cy X Y _ (by omega) (by omega) HX.out HY.out (by rw [HZX.out, HZY.out, HZ1.out, HZ2.out, HZ3.out, HZ4.out]) (tab_up HTW.out HC.out)).mono ?_) | (with_reducible refine (same_true k1 k3 A1 A3 c1 c3 L1 L3 _ (by omega) (by omega) (HI1.out.up HC.out) (HM1.out.up HC.out) (by rw [HZ1.out, HZ3.out]) (tab_up HTW.out HC.out)).mono ?_) | (with_reducible refine (same_true k2 k4 A2 A4 c2 c4 L2 L4 _ (by omega) (by omega) (HI2.out.up HC.out) (HM2.out.up HC.out) (by rw [HZ2.out, HZ4.out]) (tab_up HTW.out HC.out)).mono ?_)); rintro e w4 ⟨rfl, hb4⟩; have HC9 := Lib.hid (below_then HC.out hb4 HC.out.size); clear HC hf0 hf1 hf2 hf3 hf4 hf5 hf6 hf7; have HC := HC9; clear HC9; have hf0 := (below_atB (i := 0) HC.out hlt0).trans hy0; have hf1 := (below_atB (i := 1) HC.out hlt0).trans hy1; have hf2 := (below_atB (i := 0) HC.out hlt1).trans hy2; have hf3 := (below_atB (i := 1) HC.out hlt1).trans hy3; have hf4 := (below_atB (i := 0) HC.out hlt2).trans hy4; have hf5 := (below_atB (i := 1) HC.out hlt2).trans hy5; have hf6 := (below_atB (i := 0) HC.out hlt3).trans hy6; have hf7 := (below_atB (i := 1) HC.out hlt3).trans hy7; clear hb4))
    all_goals
      go_wp2
      go_ret
      exact ⟨rfl, HWW.out.trans (Below.less HC.out HWW.out.size)⟩
end Go.Proofs.YtbfbijokhlkekaaDoor

/- Sums and differences of limbs of four digits. -/
namespace Go.Proofs.YtbfbijokhlkekaaDoor

/-- The reference's 'add': after k rounds, the limbs and the carry. -/
def raSt (A B : List Nat) : Nat → List Nat × Nat
  | 0 => ([], 0)
  | k + 1 => ((raSt A B k).1 ++ [((raSt A B k).2 + nth A k + nth B k) % 10000], ((raSt A B k).2 + nth A k + nth B k) / 10000)
theorem raSt_succ (A B : List Nat) (k : Nat) : raSt A B (k + 1) = ((raSt A B k).1 ++ [((raSt A B k).2 + nth A k + nth B k) % 10000], ((raSt A B k).2 + nth A k + nth B k) / 10000) := rfl
theorem raSt_ok {A B : List Nat} (hA : Lim4 A) (hB : Lim4 B) (k : Nat) : Lim4 (raSt A B k).1 ∧ (raSt A B k).2 ≤ 1 ∧ (raSt A B k).1.length = k := by
  induction k with
  | zero => exact ⟨fun _ h => absurd h (List.not_mem_nil), by simp [raSt], rfl⟩
  | succ k ih =>
    obtain ⟨h1, h2, h3⟩ := ih
    have a := hA.nth k
    have b := hB.nth k
    rw [raSt_succ]
    refine ⟨fun d hd => ?_, by show _ / _ ≤ _; omega, by simp [h3]⟩
    rcases List.mem_append.1 hd with h | h
    · exact h1 d h
    · rw [List.mem_singleton] at h; subst h; exact Nat.mod_lt _ (by omega)
theorem take_val (b : Nat) (B : List Nat) (k : Nat) : valB b (B.take (k + 1)) = valB b (B.take k) + b ^ k * nth B k := by
  rcases Nat.lt_or_ge k B.length with h | h
  · exact valB_take_succ _ _ _ h
  · rw [valB_take_over _ _ _ h, valB_take_over _ _ _ (by omega), nth_ge h]; simp
theorem raSt_val {A B : List Nat} (hA : Lim4 A) (hB : Lim4 B) (k : Nat) : valB 10000 (raSt A B k).1 + 10000 ^ k * (raSt A B k).2 = valB 10000 (A.take k) + valB 10000 (B.take k) := by
  induction k with
  | zero => simp [raSt, valB]
  | succ k ih =>
    have hl := (raSt_ok hA hB k).2.2
    rw [raSt_succ, take_val, take_val]
    dsimp only
    rw [valB_append, hl]
    generalize raSt A B k = q at *
    obtain ⟨Q, y⟩ := q
    dsimp only at *
    have ht := Nat.div_add_mod (y + nth A k + nth B k) 10000
    generalize (y + nth A k + nth B k) % 10000 = r at *
    generalize (y + nth A k + nth B k) / 10000 = c at *
    simp only [valB, Nat.mul_zero, Nat.add_zero]
    rw [Nat.pow_succ]
    generalize (10000 : Nat) ^ k = p at *
    have h1 : p * (10000 * c + r) = p * (y + nth A k + nth B k) := by rw [ht]
    clear ht hl hA hB
    grind

/-- The reference's 'sub': after k rounds, the limbs and what was borrowed. -/
def rsSt (A B : List Nat) : Nat → List Nat × Nat
  | 0 => ([], 0)
  | k + 1 => if nth A k < (rsSt A B k).2 + nth B k
      then ((rsSt A B k).1 ++ [nth A k + 10000 - ((rsSt A B k).2 + nth B k)], 1)
      else ((rsSt A B k).1 ++ [nth A k - ((rsSt A B k).2 + nth B k)], 0)
theorem rsSt_succ (A B : List Nat) (k : Nat) : rsSt A B (k + 1) = if nth A k < (rsSt A B k).2 + nth B k
      then ((rsSt A B k).1 ++ [nth A k + 10000 - ((rsSt A B k).2 + nth B k)], 1)
      else ((rsSt A B k).1 ++ [nth A k - ((rsSt A B k).2 + nth B k)], 0) := rfl
theorem rsSt_ok {A B : List Nat} (hA : Lim4 A) (hB : Lim4 B) (k : Nat) : Lim4 (rsSt A B k).1 ∧ (rsSt A B k).2 ≤ 1 ∧ (rsSt A B k).1.length = k := by
  induction k with
  | zero => exact ⟨fun _ h => absurd h (List.not_mem_nil), by simp [rsSt], rfl⟩
  | succ k ih =>
    obtain ⟨h1, h2, h3⟩ := ih
    have a := hA.nth k
    have b := hB.nth k
    rw [rsSt_succ]
    split
    · refine ⟨fun d hd => ?_, by simp, by simp [h3]⟩
      rcases List.mem_append.1 hd with h | h
      · exact h1 d h
      · rw [List.mem_singleton] at h; omega
    · refine ⟨fun d hd => ?_, by simp, by simp [h3]⟩
      rcases List.mem_append.1 hd with h | h
      · exact h1 d h
      · rw [List.mem_singleton] at h; omega
theorem rsSt_val {A B : List Nat} (hA : Lim4 A) (hB : Lim4 B) (k : Nat) : valB 10000 (rsSt A B k).1 + valB 10000 (B.take k) = valB 10000 (A.take k) + 10000 ^ k * (rsSt A B k).2 := by
  induction k with
  | zero => simp [rsSt, valB]
  | succ k ih =>
    obtain ⟨h1, h2, hl⟩ := rsSt_ok hA hB k
    have b := hB.nth k
    rw [rsSt_succ, take_val, take_val]
    generalize rsSt A B k = q at *
    obtain ⟨Q, y⟩ := q
    dsimp only at *
    rw [Nat.pow_succ]
    split
    · rename_i hlt
      dsimp only
      rw [valB_append, hl]
      simp only [valB, Nat.mul_zero, Nat.add_zero]
      obtain ⟨v, hv⟩ : ∃ v, nth A k + 10000 - (y + nth B k) = v := ⟨_, rfl⟩
      have hv2 : v + (y + nth B k) = nth A k + 10000 := by omega
      rw [hv]
      generalize (10000 : Nat) ^ k = p at *
      have h3 : p * (v + (y + nth B k)) = p * (nth A k + 10000) := by rw [hv2]
      clear hv hv2 hl h1 h2 hA hB b hlt
      grind
    · rename_i hge
      dsimp only
      rw [valB_append, hl]
      simp only [valB, Nat.mul_zero, Nat.add_zero]
      obtain ⟨v, hv⟩ : ∃ v, nth A k - (y + nth B k) = v := ⟨_, rfl⟩
      have hv2 : v + (y + nth B k) = nth A k := by omega
      rw [hv]
      generalize (10000 : Nat) ^ k = p at *
      have h3 : p * (v + (y + nth B k)) = p * nth A k := by rw [hv2]
      clear hv hv2 hl h1 h2 hA hB b hge
      grind
end Go.Proofs.YtbfbijokhlkekaaDoor

/- The reference's 'add' and 'sub'. -/
namespace Go.Proofs.YtbfbijokhlkekaaDoor
open Go.RowKit

set_option maxRecDepth 20000 in
set_option maxHeartbeats 1600000 in
theorem radd_walk (A A' : Option Addr) (c c' : Nat) (L M : List Nat) (w : World) (hl : L.length ≤ 1000000) (hml : M.length ≤ 1000000)
    (hL : Lim4 L) (hM : Lim4 M) (hR : Row .i64 w w.heap.size A c L) (hR' : Row .i64 w w.heap.size A' c' M) :
    Calls Tryd.prog 53 #[.slice A L.length c, .slice A' M.length c'] w fun e w' => ∃ v k, e = .returned v ∧ L.length ≤ k ∧ M.length ≤ k ∧ k ≤ L.length + M.length + 1 ∧ (raSt L M k).2 = 0 ∧ Own .i64 3 w' w.heap.size v (raSt L M k).1 ∧ Below w.heap.size w w' := by
  obtain ⟨i0, hi, hz0, hz1, hz2⟩ := info_parts info3
  obtain ⟨mx, hx1, hx2, hx3⟩ : ∃ mx, L.length ≤ mx ∧ M.length ≤ mx ∧ (mx = L.length ∨ mx = M.length) := ⟨max L.length M.length, by omega, by omega, by omega⟩
  have hx4 : mx ≤ 1000000 := by omega
  have HX3 := Lib.hid hx3
  clear hx3
  generalize hl' : L.length = l at *
  generalize hm' : M.length = m at *
  have HL := Lib.hid hl'
  have HM := Lib.hid hm'
  clear hl' hm'
  go_enter Tryd.func53, Tryd.ntmps53
  go_wp2
  go_loopw [5, 6, 7] (fun ov cv iv wr => ∃ k : Nat, k ≤ mx + 1 ∧ iv = .int .i64 k ∧ cv = .int .i64 (raSt L M k).2 ∧ Own .i64 3 wr w.heap.size ov (raSt L M k).1 ∧ Below w.heap.size w wr ∧ Hid (mx < k → (raSt L M k).2 = 0)) (fun _ _ iv _ => mx + 1 - (intOf iv).toNat)
  case atStart => exact ⟨0, Nat.zero_le _, rfl, rfl, Own.nil _ _ _ _, Below.refl _ _, fun _ => rfl⟩
  case round =>
    obtain ⟨k, hk, rfl, rfl, ho, hbw, hc0⟩ := hrel
    obtain ⟨h1, h2, h3⟩ := raSt_ok hL hM k
    have HS := Lib.hid (raSt_succ L M k)
    have hsz := hbw.size
    have a1 := hL.nth k
    have a2 := hM.nth k
    generalize hs : raSt L M k = S at *
    have HK := Lib.hid hs
    clear hs
    obtain ⟨Q, y⟩ := S
    dsimp only at *
    have HO := Lib.hid ho
    have H3 := Lib.hid h3
    have hql : Q.length ≤ 100000000 := by omega
    have HQL := Lib.hid hql
    clear ho h3 hql
    have step : ∀ (v2 : Value) (w2 : World) (d y' : Nat), k < mx + 1 → d = (y + nth L k + nth M k) % 10000 → y' = (y + nth L k + nth M k) / 10000 → (mx ≤ k → nth L k = 0 ∧ nth M k = 0) → Own .i64 3 w2 w.heap.size v2 (Q ++ [d]) → Below w.heap.size wr w2 →
        (k + 1 ≤ mx + 1 ∧ y' = (raSt L M (k + 1)).2 ∧ Own .i64 3 w2 w.heap.size v2 (raSt L M (k + 1)).1 ∧ Below w.heap.size w w2 ∧ Hid (mx < k + 1 → (raSt L M (k + 1)).2 = 0)) := by
      intro v2 w2 d y' hk1 hd hy hzz hown hb2
      have E := HS.out
      subst hd
      subst hy
      refine ⟨by omega, by rw [E], by rw [E]; exact hown, hbw.trans hb2, fun hmk => ?_⟩
      obtain ⟨z1, z2⟩ := hzz (by omega)
      rw [E]
      dsimp only
      rw [z1, z2]
      omega
    have HST := Lib.hid step
    clear step
    have zL : ¬ k < l → nth L k = 0 := fun h => nth_ge (by rw [HL.out]; omega)
    have zM : ¬ k < m → nth M k = 0 := fun h => nth_ge (by rw [HM.out]; omega)
    have ZL := Lib.hid zL
    have ZM := Lib.hid zM
    clear zL zM
    by_cases hkl : k < l
    · obtain ⟨b, o, rfl, hb, hcell⟩ := hR.spot (by rw [HL.out]; omega)
      have hc1 := (hcell.below hbw hb) k (by rw [HL.out]; exact hkl)
      clear hcell
      by_cases hkm : k < m
      · obtain ⟨b', o', rfl, hb', hcell'⟩ := hR'.spot (by rw [HM.out]; omega)
        have hc2 := (hcell'.below hbw hb') k (by rw [HM.out]; exact hkm)
        clear hcell'
        go_wp2_with (at_builtin; refine wpList_append_num wr rfl (.tmp 46) (.tmp 49) 29 rfl .i64 w.heap.size 3 i0 8 Tryd.underlying29 hi hz0 hz1 hz2 (by omega) u5 _ (by rfl) HO.out _ ((y + nth L k + nth M k) % 10000) ?_ 1 rfl HQL.out ?_ ?_; (simp); (exact hsz); intro v2 w2 ho2 hb2)
        go_roundw
        case rel =>
          obtain ⟨r1, r2, r3, r4, r5⟩ := HST.out v2 w2 _ _ (by omega) rfl rfl (fun h => absurd h (by omega)) ho2.out hb2
          exact ⟨k + 1, r1, by go_num, by rw [← r2]; simp, r3, r4, r5⟩
        case measure => simp [intOf]; omega
      · go_wp2_with (at_builtin; refine wpList_append_num wr rfl (.tmp 46) (.tmp 49) 29 rfl .i64 w.heap.size 3 i0 8 Tryd.underlying29 hi hz0 hz1 hz2 (by omega) u5 _ (by rfl) HO.out _ ((y + nth L k) % 10000) ?_ 1 rfl HQL.out ?_ ?_; (simp); (exact hsz); intro v2 w2 ho2 hb2)
        go_roundw
        case rel =>
          obtain ⟨r1, r2, r3, r4, r5⟩ := HST.out v2 w2 _ ((y + nth L k) / 10000) (by omega) (by rw [ZM.out hkm]; rfl) (by rw [ZM.out hkm]; rfl) (fun h => absurd h (by omega)) ho2.out hb2
          exact ⟨k + 1, r1, by go_num, by rw [← r2]; simp, r3, r4, r5⟩
        case measure => simp [intOf]; omega
    · by_cases hkm : k < m
      · obtain ⟨b', o', rfl, hb', hcell'⟩ := hR'.spot (by rw [HM.out]; omega)
        have hc2 := (hcell'.below hbw hb') k (by rw [HM.out]; exact hkm)
        clear hcell'
        go_wp2_with (at_builtin; refine wpList_append_num wr rfl (.tmp 46) (.tmp 49) 29 rfl .i64 w.heap.size 3 i0 8 Tryd.underlying29 hi hz0 hz1 hz2 (by omega) u5 _ (by rfl) HO.out _ ((y + nth M k) % 10000) ?_ 1 rfl HQL.out ?_ ?_; (simp); (exact hsz); intro v2 w2 ho2 hb2)
        go_roundw
        case rel =>
          obtain ⟨r1, r2, r3, r4, r5⟩ := HST.out v2 w2 _ ((y + nth M k) / 10000) (by omega) (by rw [ZL.out hkl, Nat.add_zero]) (by rw [ZL.out hkl, Nat.add_zero]) (fun h => absurd h (by omega)) ho2.out hb2
          exact ⟨k + 1, r1, by go_num, by rw [← r2]; simp, r3, r4, r5⟩
        case measure => simp [intOf]; omega
      · rcases Nat.eq_zero_or_pos y with rfl | hy
        · have hd0 : decide ((0 : Int) < ((0 : Nat) : Int)) = false := by simp
          go_wp2
          go_ret
          have hkk := HK.out
          refine ⟨_, rfl, k, by omega, by omega, ?_, by rw [hkk], by rw [hkk]; exact HO.out, hbw⟩
          rcases HX3.out with h | h <;> omega
        · have hkx : k < mx + 1 := by
            rcases Nat.lt_or_ge mx k with h | h
            · have := hc0.out h; omega
            · omega
          have hy2 : (0 : Int) < (y : Int) := by omega
          go_wp2_with (at_builtin; refine wpList_append_num wr rfl (.tmp 46) (.tmp 49) 29 rfl .i64 w.heap.size 3 i0 8 Tryd.underlying29 hi hz0 hz1 hz2 (by omega) u5 _ (by rfl) HO.out _ (y % 10000) ?_ 1 rfl HQL.out ?_ ?_; (simp); (exact hsz); intro v2 w2 ho2 hb2)
          go_roundw
          case rel =>
            obtain ⟨r1, r2, r3, r4, r5⟩ := HST.out v2 w2 _ (y / 10000) hkx (by rw [ZL.out hkl, ZM.out hkm]; rfl) (by rw [ZL.out hkl, ZM.out hkm]; rfl) (fun _ => ⟨ZL.out hkl, ZM.out hkm⟩) ho2.out hb2
            exact ⟨k + 1, r1, by go_num, by rw [← r2]; simp, r3, r4, r5⟩
          case measure => simp [intOf]; omega
end Go.Proofs.YtbfbijokhlkekaaDoor

/- The reference's 'sub' and 'compare'. -/
namespace Go.Proofs.YtbfbijokhlkekaaDoor
open Go.RowKit

set_option maxRecDepth 20000 in
set_option maxHeartbeats 1600000 in
theorem rsub_walk (A A' : Option Addr) (c c' : Nat) (L M : List Nat) (w : World) (hl : L.length ≤ 1000000) (hml : M.length ≤ L.length)
    (hL : Lim4 L) (hM : Lim4 M) (hR : Row .i64 w w.heap.size A c L) (hR' : Row .i64 w w.heap.size A' c' M) :
    Calls Tryd.prog 55 #[.slice A L.length c, .slice A' M.length c'] w fun e w' => ∃ A2 c2, e = .returned (.slice A2 (trimN (rsSt L M L.length).1 L.length) c2) ∧ Row .i64 w' w'.heap.size A2 c2 (rsSt L M L.length).1 ∧ Below w.heap.size w w' := by
  obtain ⟨i0, hi, hz0, hz1, hz2⟩ := info_parts info3
  generalize hl' : L.length = l at *
  generalize hm' : M.length = m at *
  have HL := Lib.hid hl'
  have HM := Lib.hid hm'
  clear hl' hm'
  go_enter Tryd.func55, Tryd.ntmps55
  go_wp2
  go_loopw [5, 6, 7] (fun ov cv iv wr => ∃ k : Nat, k ≤ l ∧ iv = .int .i64 k ∧ cv = .int .i64 (rsSt L M k).2 ∧ Own .i64 3 wr w.heap.size ov (rsSt L M k).1 ∧ Below w.heap.size w wr) (fun _ _ iv _ => l - (intOf iv).toNat)
  case atStart => exact ⟨0, Nat.zero_le _, rfl, rfl, Own.nil _ _ _ _, Below.refl _ _⟩
  case round =>
    obtain ⟨k, hk, rfl, rfl, ho, hbw⟩ := hrel
    obtain ⟨h1, h2, h3⟩ := rsSt_ok hL hM k
    have HS := Lib.hid (rsSt_succ L M k)
    have hsz := hbw.size
    have a1 := hL.nth k
    have a2 := hM.nth k
    generalize hs : rsSt L M k = S at *
    have HK := Lib.hid hs
    clear hs
    obtain ⟨Q, y⟩ := S
    dsimp only at *
    have HO := Lib.hid ho
    have H3 := Lib.hid h3
    have hql : Q.length ≤ 100000000 := by omega
    have HQL := Lib.hid hql
    clear ho h3 hql
    have zM : ¬ k < m → nth M k = 0 := fun h => nth_ge (by rw [HM.out]; omega)
    have ZM := Lib.hid zM
    clear zM
    by_cases hkl : k < l
    · obtain ⟨b, o, rfl, hb, hcell⟩ := hR.spot (by rw [HL.out]; omega)
      have hc1 := (hcell.below hbw hb) k (by rw [HL.out]; exact hkl)
      clear hcell
      by_cases hkm : k < m
      · obtain ⟨b', o', rfl, hb', hcell'⟩ := hR'.spot (by rw [HM.out]; omega)
        have hc2 := (hcell'.below hbw hb') k (by rw [HM.out]; exact hkm)
        clear hcell'
        by_cases hbo : nth L k < y + nth M k
        · go_wp2_with (at_builtin; refine wpList_append_num wr rfl (.tmp 35) (.tmp 37) 29 rfl .i64 w.heap.size 3 i0 8 Tryd.underlying29 hi hz0 hz1 hz2 (by omega) u5 _ (by rfl) HO.out _ (nth L k + 10000 - (y + nth M k)) ?_ 1 rfl HQL.out ?_ ?_; (omega); (exact hsz); intro v2 w2 ho2 hb2)
          go_roundw
          case rel =>
            have E := HS.out
            rw [if_pos hbo] at E
            exact ⟨k + 1, by omega, by go_num, by rw [E]; rfl, by rw [E]; exact ho2.out, hbw.trans hb2⟩
          case measure => simp [intOf]; omega
        · go_wp2_with (at_builtin; refine wpList_append_num wr rfl (.tmp 35) (.tmp 37) 29 rfl .i64 w.heap.size 3 i0 8 Tryd.underlying29 hi hz0 hz1 hz2 (by omega) u5 _ (by rfl) HO.out _ (nth L k - (y + nth M k)) ?_ 1 rfl HQL.out ?_ ?_; (omega); (exact hsz); intro v2 w2 ho2 hb2)
          go_roundw
          case rel =>
            have E := HS.out
            rw [if_neg hbo] at E
            exact ⟨k + 1, by omega, by go_num, by rw [E]; rfl, by rw [E]; exact ho2.out, hbw.trans hb2⟩
          case measure => simp [intOf]; omega
      · by_cases hbo : nth L k < y
        · go_wp2_with (at_builtin; refine wpList_append_num wr rfl (.tmp 35) (.tmp 37) 29 rfl .i64 w.heap.size 3 i0 8 Tryd.underlying29 hi hz0 hz1 hz2 (by omega) u5 _ (by rfl) HO.out _ (nth L k + 10000 - y) ?_ 1 rfl HQL.out ?_ ?_; (omega); (exact hsz); intro v2 w2 ho2 hb2)
          go_roundw
          case rel =>
            have E := HS.out
            simp only [ZM.out hkm, Nat.add_zero] at E
            rw [if_pos hbo] at E
            exact ⟨k + 1, by omega, by go_num, by rw [E]; rfl, by rw [E]; exact ho2.out, hbw.trans hb2⟩
          case measure => simp [intOf]; omega
        · go_wp2_with (at_builtin; refine wpList_append_num wr rfl (.tmp 35) (.tmp 37) 29 rfl .i64 w.heap.size 3 i0 8 Tryd.underlying29 hi hz0 hz1 hz2 (by omega) u5 _ (by rfl) HO.out _ (nth L k - y) ?_ 1 rfl HQL.out ?_ ?_; (omega); (exact hsz); intro v2 w2 ho2 hb2)
          go_roundw
          case rel =>
            have E := HS.out
            simp only [ZM.out hkm, Nat.add_zero] at E
            rw [if_neg hbo] at E
            exact ⟨k + 1, by omega, by go_num, by rw [E]; rfl, by rw [E]; exact ho2.out, hbw.trans hb2⟩
          case measure => simp [intOf]; omega
    · obtain rfl : k = l := by omega
      obtain ⟨A2, c2, hv, hrow⟩ := HO.out.row
      subst hv
      have hT := rtrim_any A2 c2 Q wr wr.heap.size (by have := HQL.out; rw [H3.out]; omega) hrow
      rw [H3.out] at hT
      have HT := Lib.hid hT
      have HRW := Lib.hid hrow
      clear hT hrow
      have e3 := H3.out
      rw [e3]
      clear e3
      go_wp2_with fail
      refine HT.out.mono ?_
      rintro e w4 ⟨rfl, rfl⟩
      go_wp2_with fail
      go_ret
      have hkk := HK.out
      rw [hkk]
      exact ⟨_, _, rfl, HRW.out, hbw⟩
end Go.Proofs.YtbfbijokhlkekaaDoor

/- The reference's 'compare'. -/
namespace Go.Proofs.YtbfbijokhlkekaaDoor
open Go.RowKit

set_option maxRecDepth 20000 in
set_option maxHeartbeats 1600000 in
theorem rcompare_any (A A' : Option Addr) (c c' : Nat) (L M : List Nat) (w : World) (hl : L.length ≤ 1000000) (hm : M.length ≤ 1000000)
    (hR : Row .i64 w w.heap.size A c L) (hR' : Row .i64 w w.heap.size A' c' M) :
    Calls Tryd.prog 54 #[.slice A L.length c, .slice A' M.length c'] w fun e w' => e = .returned (.int .i64 (cmpL L M)) ∧ ∃ n, w' = w.drewN n := by
  generalize hn : L.length = n at *
  generalize hn' : M.length = n' at *
  have HN := Lib.hid hn
  have HN' := Lib.hid hn'
  clear hn hn'
  by_cases hne : n = n'
  · subst hne
    have hdec : ((n : Int) != (n : Int)) = false := by simp
    go_enter Tryd.func54, Tryd.ntmps54
    go_wp2
    go_loopw [5] (fun v wr => ∃ k : Nat, k ≤ n ∧ v = .int .i64 ((k : Int) - 1) ∧ Hid (∃ d, wr = w.drewN d) ∧ Hid (cmpDown L M k = cmpDown L M n)) (fun v _ => (intOf v + 1).toNat)
    case atStart => exact ⟨n, Nat.le_refl _, rfl, ⟨0, rfl⟩, rfl⟩
    case round =>
      obtain ⟨k, hk, rfl, hw, ht⟩ := hrel
      obtain ⟨d, rfl⟩ := hw.out
      rcases Nat.eq_zero_or_pos k with rfl | hpos
      · have hd : decide ((0 : Int) ≤ ((0 : Nat) : Int) - 1) = false := by simp
        go_wp2
        go_ret
        exact ⟨by rw [cmpL, HN.out, HN'.out, if_pos rfl, ← ht.out]; rfl, d, rfl⟩
      · obtain ⟨m, rfl⟩ : ∃ m, k = m + 1 := ⟨k - 1, by omega⟩
        have h1 : ((0 : Int) ≤ ((m + 1 : Nat) : Int) - 1) := by omega
        obtain ⟨b, o, rfl, _, hcell⟩ := hR.spot (by rw [HN.out]; omega)
        obtain ⟨b', o', rfl, _, hcell'⟩ := hR'.spot (by rw [HN'.out]; omega)
        have hc1 := hcell m (by rw [HN.out]; omega)
        have hc2 := hcell' m (by rw [HN'.out]; omega)
        have e1 : ((m + 1 : Nat) : Int) - 1 = (m : Int) := by omega
        rw [e1]
        clear e1 h1 hcell hcell'
        rcases Nat.lt_trichotomy (nth L m) (nth M m) with hz | hz | hz
        · have HZ := Lib.hid hz
          go_wp2
          go_quiet (fail)
          go_wp2
          go_ret
          have hzz := HZ.out
          exact ⟨ret_int (by rw [cmpL, HN.out, HN'.out, if_pos rfl, ← ht.out, cmpDown, if_neg (by omega)]; unfold cmpZ; rw [if_pos hzz]), _, World.drewN_drewN _ _ _⟩
        · have hz1 : ¬ nth L m < nth M m := by omega
          have hz2 : ¬ nth M m < nth L m := by omega
          have HZ := Lib.hid hz
          clear hz
          go_wp2
          go_quiet (fail)
          go_wp2
          go_quiet (fail)
          go_wp2
          go_roundw
          case rel => exact ⟨m, by omega, rfl, ⟨_, rfl⟩, by have := ht.out; rw [cmpDown, if_pos HZ.out] at this; exact this⟩
          case measure => simp [intOf]
        · have hz1 : ¬ nth L m < nth M m := by omega
          have HZ := Lib.hid hz
          go_wp2
          go_quiet (fail)
          go_wp2
          go_quiet (fail)
          go_wp2
          go_ret
          have hzz := HZ.out
          exact ⟨ret_int (by rw [cmpL, HN.out, HN'.out, if_pos rfl, ← ht.out, cmpDown, if_neg (by omega)]; unfold cmpZ; rw [if_neg (by omega), if_neg (by omega)]), _, drew3 _ _ _ _⟩
  · rcases Nat.lt_or_gt_of_ne hne with hlt | hlt
    · have hdec : ((n : Int) != (n' : Int)) = true := by simp; omega
      go_enter Tryd.func54, Tryd.ntmps54
      go_wp2
      go_ret
      exact ⟨ret_int (by rw [cmpL, HN.out, HN'.out, if_neg hne]; unfold cmpZ; rw [if_pos hlt]), 0, rfl⟩
    · have hdec : ((n : Int) != (n' : Int)) = true := by simp; omega
      have hlt2 : ¬ n < n' := by omega
      go_enter Tryd.func54, Tryd.ntmps54
      go_wp2
      go_ret
      exact ⟨ret_int (by rw [cmpL, HN.out, HN'.out, if_neg hne]; unfold cmpZ; rw [if_neg hlt2, if_neg hne]), 0, rfl⟩

theorem canon_lt4 {L M : List Nat} (hL : Lim4 L) (h0 : 0 < M.length → nth M (M.length - 1) ≠ 0) (h : L.length < M.length) : val4 L < val4 M := by
  have h1 := valB_lt hL
  have h2 : (10000 : Nat) ^ L.length ≤ 10000 ^ (M.length - 1) := Nat.pow_le_pow_right (by omega) (by omega)
  have h3 := valB_take_succ 10000 M (M.length - 1) (by omega)
  rw [show M.length - 1 + 1 = M.length by omega, List.take_of_length_le (Nat.le_refl _)] at h3
  have h4 := h0 (by omega)
  have h5 : 10000 ^ (M.length - 1) * 1 ≤ 10000 ^ (M.length - 1) * nth M (M.length - 1) := Nat.mul_le_mul_left _ (by omega)
  unfold val4
  omega
theorem cmpDown_val4 {L M : List Nat} (hL : Lim4 L) (hM : Lim4 M) (n : Nat) (h1 : n ≤ L.length) (h2 : n ≤ M.length) : cmpDown L M n = cmpZ (val4 (L.take n)) (val4 (M.take n)) := by
  induction n with
  | zero => simp [cmpDown, cmpZ, valB]
  | succ n ih =>
    have e1 := valB_take_succ 10000 L n (by omega)
    have e2 := valB_take_succ 10000 M n (by omega)
    have b1 := valB_lt (hL.take n)
    have b2 := valB_lt (hM.take n)
    rw [List.length_take, Nat.min_eq_left (by omega)] at b1 b2
    unfold cmpDown val4
    rw [e1, e2]
    split
    · rename_i h
      rw [ih (by omega) (by omega), h]
      unfold cmpZ val4
      simp
    · rename_i h
      generalize valB 10000 (L.take n) = x at *
      generalize valB 10000 (M.take n) = y at *
      generalize (10000 : Nat) ^ n = p at *
      unfold cmpZ
      rcases Nat.lt_or_gt_of_ne h with h | h
      · rw [if_pos h]
        have : p * (nth L n + 1) ≤ p * nth M n := Nat.mul_le_mul_left _ h
        rw [Nat.mul_add] at this
        rw [if_pos (by omega)]
      · rw [if_neg (by omega), if_neg (by omega)]
        have : p * (nth M n + 1) ≤ p * nth L n := Nat.mul_le_mul_left _ h
        rw [Nat.mul_add] at this
        rw [if_neg (by omega), if_neg (by omega)]
theorem cmpL_val4 {w w' : World} {B B' : Nat} {n m : Bool} {A A' : Option Addr} {c c' : Nat} {L M : List Nat} (hL : RefR w B n A c L) (hM : RefR w' B' m A' c' M) : cmpL L M = cmpZ (val4 L) (val4 M) := by
  unfold cmpL
  split
  · rename_i h
    rw [cmpDown_val4 hL.lim hM.lim _ (Nat.le_refl _) (by omega), List.take_of_length_le (Nat.le_refl _), List.take_of_length_le (by omega)]
  · rename_i h
    rcases Nat.lt_or_gt_of_ne h with h | h
    · have := canon_lt4 hL.lim hM.top h
      unfold cmpZ; rw [if_pos h, if_pos this]
    · have := canon_lt4 hM.lim hL.top h
      unfold cmpZ; rw [if_neg (by omega), if_neg (by omega), if_neg (by omega), if_neg (by omega)]
theorem ref_len {w w' : World} {B B' : Nat} {n m : Bool} {A A' : Option Addr} {c c' : Nat} {L M : List Nat} (hL : RefR w B n A c L) (hM : RefR w' B' m A' c' M) (h : val4 M ≤ val4 L) : M.length ≤ L.length := by
  rcases Nat.lt_or_ge L.length M.length with hlt | hge
  · have := canon_lt4 hL.lim hM.top hlt; omega
  · exact hge
end Go.Proofs.YtbfbijokhlkekaaDoor

/- The reference's 'Add' of any two integers. -/
namespace Go.Proofs.YtbfbijokhlkekaaDoor
open Go.RowKit

theorem radd2 (A A' : Option Addr) (c c' : Nat) (L M : List Nat) (w : World) (hl : L.length ≤ 500000) (hml : M.length ≤ 500000)
    (hL : Lim4 L) (hM : Lim4 M) (hR : Row .i64 w w.heap.size A c L) (hR' : Row .i64 w w.heap.size A' c' M) :
    Calls Tryd.prog 53 #[.slice A L.length c, .slice A' M.length c'] w fun e w' => ∃ A2 c2 R, e = .returned (.slice A2 (List.length R) c2) ∧
      Row .i64 w' w'.heap.size A2 c2 R ∧ Lim4 R ∧ val4 R = val4 L + val4 M ∧ List.length R ≤ L.length + M.length + 1 ∧ Below w.heap.size w w' := by
  refine (radd_walk A A' c c' L M w (by omega) (by omega) hL hM hR hR').mono ?_
  rintro e w' ⟨v, k, rfl, h1, h2, h3, h4, ho, hb⟩
  obtain ⟨A2, c2, rfl, hrow⟩ := ho.row
  have hok := raSt_ok hL hM k
  have hv := raSt_val hL hM k
  rw [h4, valB_take_over _ _ _ h1, valB_take_over _ _ _ h2] at hv
  exact ⟨A2, c2, _, rfl, hrow, hok.1, by simpa using hv, by rw [hok.2.2]; exact h3, hb⟩
theorem rsub2 (A A' : Option Addr) (c c' : Nat) (L M : List Nat) (w : World) (hl : L.length ≤ 500000) (hml : M.length ≤ L.length)
    (hL : Lim4 L) (hM : Lim4 M) (hle : val4 M ≤ val4 L) (hR : Row .i64 w w.heap.size A c L) (hR' : Row .i64 w w.heap.size A' c' M) :
    Calls Tryd.prog 55 #[.slice A L.length c, .slice A' M.length c'] w fun e w' => ∃ A2 c2 R, e = .returned (.slice A2 (List.length R) c2) ∧
      Row .i64 w' w'.heap.size A2 c2 R ∧ Lim4 R ∧ val4 R + val4 M = val4 L ∧ List.length R ≤ L.length + M.length + 1 ∧ Below w.heap.size w w' := by
  refine (rsub_walk A A' c c' L M w (by omega) hml hL hM hR hR').mono ?_
  rintro e w' ⟨A2, c2, rfl, hrow, hb⟩
  have hok := rsSt_ok hL hM L.length
  have hv := rsSt_val hL hM L.length
  rw [valB_take_over _ _ _ (Nat.le_refl _), valB_take_over _ _ _ hml] at hv
  have hlt := valB_lt hok.1
  rw [hok.2.2] at hlt
  have hb0 : (rsSt L M L.length).2 = 0 := by
    rcases Nat.eq_zero_or_pos (rsSt L M L.length).2 with h | h
    · exact h
    · have h1 : (rsSt L M L.length).2 = 1 := by have := hok.2.1; omega
      rw [h1] at hv; simp only [val4] at hle; omega
  rw [hb0] at hv
  have htl := trimN_le (rsSt L M L.length).1 L.length
  have el : ((rsSt L M L.length).1.take (trimN (rsSt L M L.length).1 L.length)).length = trimN (rsSt L M L.length).1 L.length := by rw [List.length_take, hok.2.2]; omega
  refine ⟨A2, c2, (rsSt L M L.length).1.take (trimN (rsSt L M L.length).1 L.length), by rw [el], hrow.take _, hok.1.take _, ?_, by rw [el]; omega, hb⟩
  rw [val4, trimN_val _ _ _ (by rw [hok.2.2]; exact Nat.le_refl _), List.take_of_length_le (by rw [hok.2.2]; exact Nat.le_refl _)]
  simpa using hv
/-- 'signed' of the reference: the zeros at the end are left out. -/
theorem rsigned_pack (neg : Bool) (A : Option Addr) (c : Nat) (R : List Nat) (w : World) {n : Nat} (hl : R.length ≤ n) (hn : n ≤ 4000000) (hlim : Lim4 R) (hR : Row .i64 w w.heap.size A c R) :
    Calls Tryd.prog 44 #[.bool neg, .slice A R.length c] w fun e w' => ∃ T, e = .returned (.agg #[.bool (neg && decide (0 < List.length T)), .slice A (List.length T) c]) ∧ Row .i64 w' w'.heap.size A c T ∧ (∀ d ∈ T, d < 10000) ∧ (0 < List.length T → nth T (List.length T - 1) ≠ 0) ∧
      val4 T = val4 R ∧ List.length T ≤ R.length ∧ Below w.heap.size w w' := by
  have htl := trimN_le R R.length
  have el : (R.take (trimN R R.length)).length = trimN R R.length := by rw [List.length_take]; omega
  refine (rsigned_any neg A c R w (by omega) hR).mono ?_
  rintro e w' ⟨rfl, hb⟩
  refine ⟨R.take (trimN R R.length), by rw [el], (((hR.below hb).more hb.size).take _), fun d hd => hlim d (List.mem_of_mem_take hd), ?_, ?_, by rw [el]; exact htl, hb⟩
  · rw [el]; intro h; rw [nth_take (by omega)]; exact trimN_top _ _ h
  · rw [val4, trimN_val _ _ _ (Nat.le_refl _), List.take_of_length_le (Nat.le_refl _)]
theorem addZR (n : Bool) {L M R : List Nat} (h : val4 R = val4 L + val4 M) (h0 : R.length = 0 → val4 R = 0) : zR (n && decide (0 < R.length)) R = zR n L + zR n M := by
  unfold zR
  rcases Nat.eq_zero_or_pos R.length with h1 | h1
  · have h2 := h0 h1
    have e : (decide (0 < R.length)) = false := by rw [decide_eq_false_iff_not]; omega
    rw [e, Bool.and_false]
    cases n <;> simp <;> omega
  · have e : (decide (0 < R.length)) = true := by rw [decide_eq_true_iff]; omega
    rw [e, Bool.and_true]
    cases n <;> simp <;> omega
theorem subZR (n : Bool) {L M R : List Nat} (h : val4 R + val4 M = val4 L) (h0 : R.length = 0 → val4 R = 0) : zR (n && decide (0 < R.length)) R = zR n L + zR (!n) M := by
  unfold zR
  rcases Nat.eq_zero_or_pos R.length with h1 | h1
  · have h2 := h0 h1
    have e : (decide (0 < R.length)) = false := by rw [decide_eq_false_iff_not]; omega
    rw [e, Bool.and_false]
    cases n <;> simp <;> omega
  · have e : (decide (0 < R.length)) = true := by rw [decide_eq_true_iff]; omega
    rw [e, Bool.and_true]
    cases n <;> simp <;> omega
theorem cmp_ge' {x y : Nat} (h : y ≤ x) : 0 ≤ cmpZ x y := cmp_ge h

set_option maxRecDepth 20000 in
set_option maxHeartbeats 3200000 in
theorem radd_same (n : Bool) (A A' : Option Addr) (c c' : Nat) (L M : List Nat) (w : World) (hl : L.length ≤ 500000) (hml : M.length ≤ 500000)
    (hL : RefR w w.heap.size n A c L) (hM : RefR w w.heap.size n A' c' M) :
    Calls Tryd.prog 25 #[.agg #[.bool n, .slice A L.length c], .agg #[.bool n, .slice A' M.length c']] w fun e w' => ∃ k A c R, e = .returned (.agg #[.bool k, .slice A (List.length R) c]) ∧
      RefR w' w'.heap.size k A c R ∧ zR k R = zR n L + zR n M ∧ List.length R ≤ L.length + M.length + 1 ∧ Below w.heap.size w w' := by
  have hM2 := fun W h1 h2 => radd2 A A' c c' L M W hl hml hL.lim hM.lim h1 h2
  have HM2 := Lib.hid hM2
  clear hM2
  generalize hl' : L.length = l at *
  generalize hm' : M.length = l2 at *
  have HLL := Lib.hid hl'
  have HML := Lib.hid hm'
  clear hl' hm'
  have hbb : (n == n) = true := by simp
  go_enter Tryd.func25, Tryd.ntmps25
  go_wp2
  have hne1 : ¬ w.heap.size = w.heap.size + 1 + 1 := by omega
  have hne2 : ¬ w.heap.size + 1 + 1 = w.heap.size := by omega
  have HUP := Lib.hid (below_drew (below_a3 w (.cells #[.bool n, .slice A l c] 31) (.cells #[.bool n, .slice A' l2 c'] 31) (.cells #[.bool false, .slice none 0 0] 31)))
  go_region_held3 (fun w' => w'.cell? ⟨w.heap.size, 0, none⟩ = some (.bool n) ∧ w'.cell? ⟨w.heap.size, 1, none⟩ = some (.slice A l c) ∧
      w'.cell? ⟨w.heap.size + 1, 0, none⟩ = some (.bool n) ∧ w'.cell? ⟨w.heap.size + 1, 1, none⟩ = some (.slice A' l2 c')) (go_keep)
    (first
      | (go_at_call 53; (with_reducible refine (HM2.out _ (hL.row.up HUP.out) (hM.row.up HUP.out)).mono ?_); rintro e w1 ⟨A2, c1, R, rfl, hr1, hlim1, hv1, hl1, hb1⟩; have HB1 := Lib.hid (three (below_undrew hb1)).2.2.2.2.2.2.2.2.2; have X := three (below_undrew hb1); have hq1 := X.1; have hq2 := X.2.1; have hq3 := X.2.2.1; have hq4 := X.2.2.2.1; have hq9 := X.2.2.2.2.2.2.2.2.1; clear X hb1)
      | (go_at_call 44; refine (rsigned_pack _ _ _ R _ hl1 (by omega) hlim1 hr1).mono ?_; rintro e w2 ⟨T, rfl, hr2, hlim2, htop2, hv2, hl2, hb2⟩; have HB2 := Lib.hid (below_then HB1.out hb2 hq9); have HR2 := Lib.hid hr2; have HV2 := Lib.hid hv2; clear hq1 hq2 hq3 hq4 hr1 hr2 hv2 hb2; have X := three' HB2.out; have hq1 := X.1; have hq2 := X.2.1; have hq3 := X.2.2.1; have hq4 := X.2.2.2.1; have hq5 := X.2.2.2.2.1; have hq6 := X.2.2.2.2.2.1; have hq7 := X.2.2.2.2.2.2.1; have hq8 := X.2.2.2.2.2.2.2.1; clear X))
  all_goals
    go_wp2
    have hbw : Below w.heap.size w w2 := (below_a3 w _ _ _).trans (Below.less HB2.out (by omega))
    refine bodyPost_ret (v := .agg #[.bool (n && decide (0 < List.length T)), .slice A2 (List.length T) c1]) (by simp [results, Tryd.results25, go_sem, hq5, hq6]) rfl
      ⟨_, _, _, T, rfl, ?_, addZR n (by rw [HV2.out]; exact hv1) val4_nil, by omega, (hbw.setCell (by simp; omega) _).setCell (by simp; omega) _⟩
    rw [setCell_size, setCell_size]
    refine ⟨HR2.out.box3 HB2.out (fun _ => by simp) (fun _ => by simp) _ _, hlim2, htop2, fun hk hR => ?_⟩
    rw [hR] at hk
    simp at hk

set_option maxRecDepth 20000 in
set_option maxHeartbeats 3200000 in
theorem radd_ge (n : Bool) (A A' : Option Addr) (c c' : Nat) (L M : List Nat) (w : World) (hl : L.length ≤ 500000) (hml : M.length ≤ 500000) (hle : val4 M ≤ val4 L)
    (hL : RefR w w.heap.size n A c L) (hM : RefR w w.heap.size (!n) A' c' M) :
    Calls Tryd.prog 25 #[.agg #[.bool n, .slice A L.length c], .agg #[.bool (!n), .slice A' M.length c']] w fun e w' => ∃ k A c R, e = .returned (.agg #[.bool k, .slice A (List.length R) c]) ∧
      RefR w' w'.heap.size k A c R ∧ zR k R = zR n L + zR (!n) M ∧ List.length R ≤ L.length + M.length + 1 ∧ Below w.heap.size w w' := by
  have hM2 := fun W h1 h2 => rsub2 A A' c c' L M W hl (ref_len hL hM hle) hL.lim hM.lim hle h1 h2
  have HM2 := Lib.hid hM2
  have hC := fun W h1 h2 => rcompare_any A A' c c' L M W (by omega) (by omega) h1 h2
  have hz : cmpL L M = cmpZ (val4 L) (val4 M) := cmpL_val4 hL hM
  have hz2 : 0 ≤ cmpL L M := by rw [hz]; exact cmp_ge hle
  generalize cmpL L M = z at *
  have HC := Lib.hid hC
  clear hC hz hle
  clear hM2
  generalize hl' : L.length = l at *
  generalize hm' : M.length = l2 at *
  have HLL := Lib.hid hl'
  have HML := Lib.hid hm'
  clear hl' hm'
  have hbb : (n == !n) = false := by cases n <;> rfl
  go_enter Tryd.func25, Tryd.ntmps25
  go_wp2_with fail
  refine (HC.out _ (hL.row.up (below_a3 _ _ _ _)) (hM.row.up (below_a3 _ _ _ _))).mono ?_
  rintro e w9 ⟨rfl, nq, rfl⟩
  go_wp2_with fail
  have hne1 : ¬ w.heap.size = w.heap.size + 1 + 1 := by omega
  have hne2 : ¬ w.heap.size + 1 + 1 = w.heap.size := by omega
  have HUP := Lib.hid (below_drewN (below_a3 w (.cells #[.bool n, .slice A l c] 31) (.cells #[.bool (!n), .slice A' l2 c'] 31) (.cells #[.bool false, .slice none 0 0] 31)) (nq + 1))
  go_region_held3 (fun w' => w'.cell? ⟨w.heap.size, 0, none⟩ = some (.bool n) ∧ w'.cell? ⟨w.heap.size, 1, none⟩ = some (.slice A l c) ∧
      w'.cell? ⟨w.heap.size + 1, 0, none⟩ = some (.bool (!n)) ∧ w'.cell? ⟨w.heap.size + 1, 1, none⟩ = some (.slice A' l2 c')) (go_keep)
    (first
      | (go_at_call 55; (with_reducible refine (HM2.out _ (hL.row.up HUP.out) (hM.row.up HUP.out)).mono ?_); rintro e w1 ⟨A2, c1, R, rfl, hr1, hlim1, hv1, hl1, hb1⟩; have HB1 := Lib.hid (three (below_undrewN hb1)).2.2.2.2.2.2.2.2.2; have X := three (below_undrewN hb1); have hq1 := X.1; have hq2 := X.2.1; have hq3 := X.2.2.1; have hq4 := X.2.2.2.1; have hq9 := X.2.2.2.2.2.2.2.2.1; clear X hb1)
      | (go_at_call 44; refine (rsigned_pack _ _ _ R _ hl1 (by omega) hlim1 hr1).mono ?_; rintro e w2 ⟨T, rfl, hr2, hlim2, htop2, hv2, hl2, hb2⟩; have HB2 := Lib.hid (below_then HB1.out hb2 hq9); have HR2 := Lib.hid hr2; have HV2 := Lib.hid hv2; clear hq1 hq2 hq3 hq4 hr1 hr2 hv2 hb2; have X := three' HB2.out; have hq1 := X.1; have hq2 := X.2.1; have hq3 := X.2.2.1; have hq4 := X.2.2.2.1; have hq5 := X.2.2.2.2.1; have hq6 := X.2.2.2.2.2.1; have hq7 := X.2.2.2.2.2.2.1; have hq8 := X.2.2.2.2.2.2.2.1; clear X))
  all_goals
    go_wp2
    have hbw : Below w.heap.size w w2 := (below_a3 w _ _ _).trans (Below.less HB2.out (by omega))
    refine bodyPost_ret (v := .agg #[.bool (n && decide (0 < List.length T)), .slice A2 (List.length T) c1]) (by simp [results, Tryd.results25, go_sem, hq5, hq6]) rfl
      ⟨_, _, _, T, rfl, ?_, subZR n (by rw [HV2.out]; exact hv1) val4_nil, by omega, (hbw.setCell (by simp; omega) _).setCell (by simp; omega) _⟩
    rw [setCell_size, setCell_size]
    refine ⟨HR2.out.box3 HB2.out (fun _ => by simp) (fun _ => by simp) _ _, hlim2, htop2, fun hk hR => ?_⟩
    rw [hR] at hk
    simp at hk

set_option maxRecDepth 20000 in
set_option maxHeartbeats 3200000 in
theorem radd_lt (n : Bool) (A A' : Option Addr) (c c' : Nat) (L M : List Nat) (w : World) (hl : L.length ≤ 500000) (hml : M.length ≤ 500000) (hlt : val4 L < val4 M)
    (hL : RefR w w.heap.size n A c L) (hM : RefR w w.heap.size (!n) A' c' M) :
    Calls Tryd.prog 25 #[.agg #[.bool n, .slice A L.length c], .agg #[.bool (!n), .slice A' M.length c']] w fun e w' => ∃ k A c R, e = .returned (.agg #[.bool k, .slice A (List.length R) c]) ∧
      RefR w' w'.heap.size k A c R ∧ zR k R = zR n L + zR (!n) M ∧ List.length R ≤ L.length + M.length + 1 ∧ Below w.heap.size w w' := by
  have hM2 := fun W h1 h2 => rsub2 A' A c' c M L W hml (ref_len hM hL (by omega)) hM.lim hL.lim (by omega) h1 h2
  have HM2 := Lib.hid hM2
  have hC := fun W h1 h2 => rcompare_any A A' c c' L M W (by omega) (by omega) h1 h2
  have hz : cmpL L M = cmpZ (val4 L) (val4 M) := cmpL_val4 hL hM
  have hz2 : cmpL L M = -1 := by rw [hz]; exact cmp_lt hlt
  rw [hz2] at hC
  have HC := Lib.hid hC
  clear hC hz hz2 hlt
  clear hM2
  generalize hl' : L.length = l at *
  generalize hm' : M.length = l2 at *
  have HLL := Lib.hid hl'
  have HML := Lib.hid hm'
  clear hl' hm'
  have hbb : (n == !n) = false := by cases n <;> rfl
  go_enter Tryd.func25, Tryd.ntmps25
  go_wp2_with fail
  refine (HC.out _ (hL.row.up (below_a3 _ _ _ _)) (hM.row.up (below_a3 _ _ _ _))).mono ?_
  rintro e w9 ⟨rfl, nq, rfl⟩
  go_wp2_with fail
  have hne1 : ¬ w.heap.size = w.heap.size + 1 + 1 := by omega
  have hne2 : ¬ w.heap.size + 1 + 1 = w.heap.size := by omega
  have HUP := Lib.hid (below_drewN (below_a3 w (.cells #[.bool n, .slice A l c] 31) (.cells #[.bool (!n), .slice A' l2 c'] 31) (.cells #[.bool false, .slice none 0 0] 31)) (nq + 1))
  go_region_held3 (fun w' => w'.cell? ⟨w.heap.size, 0, none⟩ = some (.bool n) ∧ w'.cell? ⟨w.heap.size, 1, none⟩ = some (.slice A l c) ∧
      w'.cell? ⟨w.heap.size + 1, 0, none⟩ = some (.bool (!n)) ∧ w'.cell? ⟨w.heap.size + 1, 1, none⟩ = some (.slice A' l2 c')) (go_keep)
    (first
      | (go_at_call 55; (with_reducible refine (HM2.out _ (hM.row.up HUP.out) (hL.row.up HUP.out)).mono ?_); rintro e w1 ⟨A2, c1, R, rfl, hr1, hlim1, hv1, hl1, hb1⟩; have HB1 := Lib.hid (three (below_undrewN hb1)).2.2.2.2.2.2.2.2.2; have X := three (below_undrewN hb1); have hq1 := X.1; have hq2 := X.2.1; have hq3 := X.2.2.1; have hq4 := X.2.2.2.1; have hq9 := X.2.2.2.2.2.2.2.2.1; clear X hb1)
      | (go_at_call 44; refine (rsigned_pack _ _ _ R _ hl1 (by omega) hlim1 hr1).mono ?_; rintro e w2 ⟨T, rfl, hr2, hlim2, htop2, hv2, hl2, hb2⟩; have HB2 := Lib.hid (below_then HB1.out hb2 hq9); have HR2 := Lib.hid hr2; have HV2 := Lib.hid hv2; clear hq1 hq2 hq3 hq4 hr1 hr2 hv2 hb2; have X := three' HB2.out; have hq1 := X.1; have hq2 := X.2.1; have hq3 := X.2.2.1; have hq4 := X.2.2.2.1; have hq5 := X.2.2.2.2.1; have hq6 := X.2.2.2.2.2.1; have hq7 := X.2.2.2.2.2.2.1; have hq8 := X.2.2.2.2.2.2.2.1; clear X))
  all_goals
    go_wp2
    have hbw : Below w.heap.size w w2 := (below_a3 w _ _ _).trans (Below.less HB2.out (by omega))
    refine bodyPost_ret (v := .agg #[.bool ((!n) && decide (0 < List.length T)), .slice A2 (List.length T) c1]) (by simp [results, Tryd.results25, go_sem, hq5, hq6]) rfl
      ⟨_, _, _, T, rfl, ?_, ((subZR (!n) (L := M) (M := L) (R := T) (by rw [HV2.out]; exact hv1) val4_nil).trans (by rw [Bool.not_not, Int.add_comm])), by omega, (hbw.setCell (by simp; omega) _).setCell (by simp; omega) _⟩
    rw [setCell_size, setCell_size]
    refine ⟨HR2.out.box3 HB2.out (fun _ => by simp) (fun _ => by simp) _ _, hlim2, htop2, fun hk hR => ?_⟩
    rw [hR] at hk
    simp at hk

/-- 'Add' of the reference, of any two integers. -/
theorem raddI_any (n m : Bool) (A A' : Option Addr) (c c' : Nat) (L M : List Nat) (w : World) (hl : L.length ≤ 500000) (hml : M.length ≤ 500000)
    (hL : RefR w w.heap.size n A c L) (hM : RefR w w.heap.size m A' c' M) :
    Calls Tryd.prog 25 #[.agg #[.bool n, .slice A L.length c], .agg #[.bool m, .slice A' M.length c']] w fun e w' => ∃ k A c R, e = .returned (.agg #[.bool k, .slice A (List.length R) c]) ∧
      RefR w' w'.heap.size k A c R ∧ zR k R = zR n L + zR m M ∧ List.length R ≤ L.length + M.length + 1 ∧ Below w.heap.size w w' := by
  by_cases h : n = m
  · subst h
    exact radd_same n A A' c c' L M w hl hml hL hM
  · obtain rfl : m = !n := by cases n <;> cases m <;> first | rfl | exact absurd rfl h
    rcases Nat.lt_or_ge (val4 L) (val4 M) with h1 | h1
    · exact radd_lt n A A' c c' L M w hl hml h1 hL hM
    · exact radd_ge n A A' c c' L M w hl hml h1 hL hM
end Go.Proofs.YtbfbijokhlkekaaDoor

/- The reference's 'Neg', 'Sub' and 'Cmp'. -/
namespace Go.Proofs.YtbfbijokhlkekaaDoor
open Go.RowKit

theorem zR_neg (n : Bool) {L : List Nat} : zR ((!n) && decide (0 < L.length)) L = - zR n L := by
  unfold zR
  rcases Nat.eq_zero_or_pos L.length with h1 | h1
  · have h2 := val4_nil h1
    have e : (decide (0 < L.length)) = false := by rw [decide_eq_false_iff_not]; omega
    rw [e, Bool.and_false, h2]
    cases n <;> simp
  · have e : (decide (0 < L.length)) = true := by rw [decide_eq_true_iff]; omega
    rw [e, Bool.and_true]
    cases n <;> simp
set_option maxRecDepth 20000 in
set_option maxHeartbeats 3200000 in
theorem rneg_any (n : Bool) (A : Option Addr) (c : Nat) (L : List Nat) (w : World) (hl : L.length ≤ 500000) (hL : RefR w w.heap.size n A c L) :
    Calls Tryd.prog 29 #[.agg #[.bool n, .slice A L.length c]] w fun e w' => ∃ k A c, e = .returned (.agg #[.bool k, .slice A L.length c]) ∧
      RefR w' w'.heap.size k A c L ∧ zR k L = - zR n L ∧ Below w.heap.size w w' := by
  have hM2 := fun W h1 => rsigned_trim (!n) A c L W hl hL.top h1
  have HM2 := Lib.hid hM2
  clear hM2
  have HZ := Lib.hid (zR_neg n (L := L))
  generalize hl' : L.length = l at *
  have HLL := Lib.hid hl'
  clear hl'
  go_enter Tryd.func29, Tryd.ntmps29
  go_wp2_with fail
  refine (HM2.out _ (hL.row.up (below_a2 _ _ _))).mono ?_
  rintro e w1 ⟨rfl, hb1⟩
  have X := two hb1
  have hq3 := X.2.2.1
  have hq4 := X.2.2.2.1
  have hq5 := X.2.2.2.2.1
  have hq6 := X.2.2.2.2.2.1
  have HB1 := Lib.hid X.2.2.2.2.2.2.2
  have HR1 := Lib.hid (hL.up (upa2 HB1.out))
  clear X hb1
  go_wp2_with fail
  refine bodyPost_ret (v := .agg #[.bool ((!n) && decide (0 < l)), .slice A l c]) (by simp [results, Tryd.results29, go_sem, hq3, hq4]) rfl
    ⟨_, _, _, rfl, ?_, by rw [← HZ.out], ((upa2 HB1.out).setCell (by simp) _).setCell (by simp) _⟩
  rw [setCell_size, setCell_size]
  refine ⟨HR1.out.row.box2 HB1.out (fun _ => by simp) (fun _ => by simp) _ _, HR1.out.lim, HR1.out.top, fun hk hR => ?_⟩
  have h9 : l = 0 := by rw [← HLL.out, hR]; rfl
  rw [h9] at hk
  simp at hk

set_option maxRecDepth 20000 in
set_option maxHeartbeats 3200000 in
theorem rsubI_any (n m : Bool) (A A' : Option Addr) (c c' : Nat) (L M : List Nat) (w : World) (hl : L.length ≤ 500000) (hml : M.length ≤ 500000)
    (hL : RefR w w.heap.size n A c L) (hM : RefR w w.heap.size m A' c' M) :
    Calls Tryd.prog 27 #[.agg #[.bool n, .slice A L.length c], .agg #[.bool m, .slice A' M.length c']] w fun e w' => ∃ k A c R, e = .returned (.agg #[.bool k, .slice A R.length c]) ∧
      RefR w' w'.heap.size k A c R ∧ zR k R = zR n L - zR m M ∧ R.length ≤ L.length + M.length + 1 ∧ Below w.heap.size w w' := by
  have hN := fun W (h : RefR W W.heap.size m A' c' M) => rneg_any m A' c' M W hml h
  have HN := Lib.hid hN
  have hAd := fun (k : Bool) (A2 : Option Addr) (c2 : Nat) W (h1 : RefR W W.heap.size n A c L) (h2 : RefR W W.heap.size k A2 c2 M) => raddI_any n k A A2 c c2 L M W hl hml h1 h2
  have HAd := Lib.hid hAd
  clear hN hAd
  generalize hl' : L.length = l at *
  generalize hm' : M.length = l2 at *
  have HLL := Lib.hid hl'
  have HML := Lib.hid hm'
  clear hl' hm'
  go_enter Tryd.func27, Tryd.ntmps27
  go_wp2
  have hne1 : ¬ w.heap.size = w.heap.size + 1 + 1 := by omega
  have hne2 : ¬ w.heap.size + 1 + 1 = w.heap.size := by omega
  go_region_held3 (fun w' => w'.cell? ⟨w.heap.size, 0, none⟩ = some (.bool n) ∧ w'.cell? ⟨w.heap.size, 1, none⟩ = some (.slice A l c) ∧
      w'.cell? ⟨w.heap.size + 1, 0, none⟩ = some (.bool m) ∧ w'.cell? ⟨w.heap.size + 1, 1, none⟩ = some (.slice A' l2 c')) (go_keep)
    (first
      | (go_at_call 29; (with_reducible refine (HN.out _ (hM.up (below_drew (below_a3 _ _ _ _)))).mono ?_); rintro e w1 ⟨k, A2, c2, rfl, hi1, hz1, hb1⟩; have HZ1 := Lib.hid hz1; have HB1 := Lib.hid (three (below_undrew hb1)).2.2.2.2.2.2.2.2.2; have HW1 := Lib.hid ((below_drew (below_a3 w _ _ _)).trans (Below.less hb1 (below_drew (below_a3 w _ _ _)).size)); have X := three (below_undrew hb1); have hq1 := X.1; have hq2 := X.2.1; have hq3 := X.2.2.1; have hq4 := X.2.2.2.1; have hq9 := X.2.2.2.2.2.2.2.2.1; clear X hb1 hz1)
      | (go_at_call 25; (with_reducible refine (HAd.out _ _ _ _ (hL.up HW1.out) hi1).mono ?_); rintro e w2 ⟨k3, A3, c3, R, rfl, hi2, hz2, hl2, hb2⟩; have HZ2 := Lib.hid hz2; have HI2 := Lib.hid hi2; have HB2 := Lib.hid (below_then HB1.out hb2 hq9); clear hq1 hq2 hq3 hq4 hi1 hb2 hz2 hi2; have X := three' HB2.out; have hq1 := X.1; have hq2 := X.2.1; have hq3 := X.2.2.1; have hq4 := X.2.2.2.1; have hq5 := X.2.2.2.2.1; have hq6 := X.2.2.2.2.2.1; have hq7 := X.2.2.2.2.2.2.1; have hq8 := X.2.2.2.2.2.2.2.1; clear X))
  all_goals
    go_wp2
    have hbw : Below w.heap.size w w2 := (below_a3 w _ _ _).trans (Below.less HB2.out (by omega))
    refine bodyPost_ret (v := .agg #[.bool k3, .slice A3 R.length c3]) (by simp [results, Tryd.results27, go_sem, hq5, hq6]) rfl
      ⟨_, _, _, R, rfl, ?_, by rw [HZ2.out, HZ1.out]; rfl, hl2, (hbw.setCell (by simp; omega) _).setCell (by simp; omega) _⟩
    rw [setCell_size, setCell_size]
    exact ⟨HI2.out.row.box3 HB2.out (fun _ => by simp) (fun _ => by simp) _ _, HI2.out.lim, HI2.out.top, HI2.out.sgn⟩

theorem sgn_cmp {w : World} {B : Nat} {n : Bool} {A : Option Addr} {c : Nat} {L : List Nat} (h : RefR w B n A c L) : sgnI n L = cmpI (zR n L) 0 := by
  have h1 : 0 < L.length → 0 < val4 L := fun h0 => Nat.pos_of_ne_zero (ref_pos h h0)
  have h2 : L.length = 0 → val4 L = 0 := val4_nil
  have h3 : n = true → 0 < L.length := fun hn => List.length_pos_iff.2 (h.sgn hn)
  unfold sgnI cmpI zR
  cases n
  · rcases Nat.eq_zero_or_pos L.length with h0 | h0
    · have := h2 h0
      simp [h0, this]
    · have := h1 h0
      have h4 : ¬ L.length = 0 := by omega
      simp only [Bool.false_eq_true, if_false, h4]
      rw [if_neg (by omega), if_neg (by omega)]
  · have := h1 (h3 rfl)
    simp only [if_true]
    rw [if_pos (by omega)]
theorem cmp_diff (x y : Int) : cmpI (x - y) 0 = cmpI x y := by
  unfold cmpI
  by_cases h1 : x < y
  · rw [if_pos (by omega), if_pos h1]
  · rw [if_neg (by omega), if_neg h1]
    by_cases h2 : x = y
    · rw [if_pos (by omega), if_pos h2]
    · rw [if_neg (by omega), if_neg h2]
set_option maxRecDepth 20000 in
set_option maxHeartbeats 3200000 in
theorem rcmp_any (n m : Bool) (A A' : Option Addr) (c c' : Nat) (L M : List Nat) (w : World) (hl : L.length ≤ 500000) (hml : M.length ≤ 500000)
    (hL : RefR w w.heap.size n A c L) (hM : RefR w w.heap.size m A' c' M) :
    Calls Tryd.prog 31 #[.agg #[.bool n, .slice A L.length c], .agg #[.bool m, .slice A' M.length c']] w fun e w' => e = .returned (.int .i64 (cmpI (zR n L) (zR m M))) ∧ Below w.heap.size w w' := by
  have HS := Lib.hid (fun W h1 h2 => rsubI_any n m A A' c c' L M W hl hml h1 h2)
  generalize hl' : L.length = l at *
  generalize hm' : M.length = l2 at *
  have HLL := Lib.hid hl'
  have HML := Lib.hid hm'
  clear hl' hm'
  go_enter Tryd.func31, Tryd.ntmps31
  go_wp2_with fail
  refine (HS.out _ (hL.up (below_a2 _ _ _)) (hM.up (below_a2 _ _ _))).mono ?_
  rintro e w1 ⟨k, A2, c2, R, rfl, hi, hz, hl2, hb1⟩
  have HZ := Lib.hid hz
  have HB1 := Lib.hid ((below_a2 w _ _).trans (Below.less hb1 (below_a2 w _ _).size))
  have hsg := sgn_cmp hi
  rw [hz, cmp_diff] at hsg
  have HSG := Lib.hid hsg
  have hsn := hi.sgn
  clear hz hb1 hsg hi
  go_wp2_with fail
  refine (rsign_any k A2 c2 R w1 hsn).mono ?_
  rintro e w2 ⟨rfl, hb2⟩
  go_wp2_with fail
  go_ret
  exact ⟨ret_int HSG.out, HB1.out.trans (Below.less hb2 HB1.out.size)⟩
end Go.Proofs.YtbfbijokhlkekaaDoor

/- Facts of values in a region that draws its order: integers of the program and of the reference, and the calls on them. -/
namespace Go.Proofs.YtbfbijokhlkekaaDoor
open Go.RowKit

/-- The value is the program's integer z, of at most n limbs. -/
def PInt (z : Int) (n : Nat) (v : Value) (w : World) : Prop := ∃ k A c L, v = .agg #[.bool k, .slice A (List.length L) c] ∧ IntR w w.heap.size k A c L ∧ zI k L = z ∧ L.length ≤ n
/-- The value is the reference's integer z, of at most n limbs. -/
def PRef (z : Int) (n : Nat) (v : Value) (w : World) : Prop := ∃ k A c L, v = .agg #[.bool k, .slice A (List.length L) c] ∧ RefR w w.heap.size k A c L ∧ zR k L = z ∧ L.length ≤ n
theorem PInt.up {z : Int} {n : Nat} {v : Value} {w w' : World} (h : PInt z n v w) (hb : Below w.heap.size w w') : PInt z n v w' := by
  obtain ⟨k, A, c, L, h1, h2, h3⟩ := h
  exact ⟨k, A, c, L, h1, h2.up hb, h3⟩
theorem PRef.up {z : Int} {n : Nat} {v : Value} {w w' : World} (h : PRef z n v w) (hb : Below w.heap.size w w') : PRef z n v w' := by
  obtain ⟨k, A, c, L, h1, h2, h3⟩ := h
  exact ⟨k, A, c, L, h1, h2.up hb, h3⟩
theorem PInt.more {z : Int} {n m : Nat} {v : Value} {w : World} (h : PInt z n v w) (hm : n ≤ m) : PInt z m v w := by
  obtain ⟨k, A, c, L, h1, h2, h3, h4⟩ := h
  exact ⟨k, A, c, L, h1, h2, h3, by omega⟩
def Fact.int (z : Int) (n : Nat) : Fact := ⟨PInt z n, fun _ _ _ hb h => h.up hb⟩
def Fact.ref (z : Int) (n : Nat) : Fact := ⟨PRef z n, fun _ _ _ hb h => h.up hb⟩
def Fact.is (x : Value) : Fact := ⟨fun v _ => v = x, fun _ _ _ _ h => h⟩

theorem add_fact {x y : Int} {n m : Nat} {a b : Value} {w : World} (h1 : PInt x n a w) (h2 : PInt y m b w) (hn : n ≤ 500000) (hm : m ≤ 500000) :
    Calls Tryd.prog 24 #[a, b] w fun e w' => ∃ v, e = .returned v ∧ PInt (x + y) (n + m + 1) v w' ∧ Below w.heap.size w w' := by
  obtain ⟨k, A, c, L, rfl, i1, rfl, l1⟩ := h1
  obtain ⟨k', A', c', M, rfl, i2, rfl, l2⟩ := h2
  refine (add_any k k' A A' c c' L M w (by omega) (by omega) i1 i2).mono ?_
  rintro e w' ⟨q, B, d, R, rfl, hi, hz, hl, hb⟩
  exact ⟨_, rfl, ⟨q, B, d, R, rfl, hi, hz, by omega⟩, hb⟩
theorem sub_fact {x y : Int} {n m : Nat} {a b : Value} {w : World} (h1 : PInt x n a w) (h2 : PInt y m b w) (hn : n ≤ 500000) (hm : m ≤ 500000) :
    Calls Tryd.prog 26 #[a, b] w fun e w' => ∃ v, e = .returned v ∧ PInt (x - y) (n + m + 1) v w' ∧ Below w.heap.size w w' := by
  obtain ⟨k, A, c, L, rfl, i1, rfl, l1⟩ := h1
  obtain ⟨k', A', c', M, rfl, i2, rfl, l2⟩ := h2
  refine (sub_any k k' A A' c c' L M w (by omega) (by omega) i1 i2).mono ?_
  rintro e w' ⟨q, B, d, R, rfl, hi, hz, hl, hb⟩
  exact ⟨_, rfl, ⟨q, B, d, R, rfl, hi, hz, by omega⟩, hb⟩
theorem mul_fact {x y : Int} {n m : Nat} {a b : Value} {w : World} (h1 : PInt x n a w) (h2 : PInt y m b w) (hn : n ≤ 500000) (hm : m ≤ 500000) :
    Calls Tryd.prog 32 #[a, b] w fun e w' => ∃ v, e = .returned v ∧ PInt (x * y) (n + m) v w' ∧ Below w.heap.size w w' := by
  obtain ⟨k, A, c, L, rfl, i1, rfl, l1⟩ := h1
  obtain ⟨k', A', c', M, rfl, i2, rfl, l2⟩ := h2
  refine (mul_any k k' A A' c c' L M w (by omega) (by omega) i1 i2).mono ?_
  rintro e w' ⟨q, B, d, R, rfl, hi, hz, hl, hb⟩
  exact ⟨_, rfl, ⟨q, B, d, R, rfl, hi, hz, by omega⟩, hb⟩
theorem neg_fact {x : Int} {n : Nat} {a : Value} {w : World} (h1 : PInt x n a w) (hn : n ≤ 500000) :
    Calls Tryd.prog 28 #[a] w fun e w' => ∃ v, e = .returned v ∧ PInt (-x) n v w' ∧ Below w.heap.size w w' := by
  obtain ⟨k, A, c, L, rfl, i1, rfl, l1⟩ := h1
  refine (neg_any k A c L w (by omega) i1).mono ?_
  rintro e w' ⟨q, B, d, rfl, hi, hz, hb⟩
  exact ⟨_, rfl, ⟨q, B, d, L, rfl, hi, hz, by omega⟩, hb⟩
theorem cmp_fact {x y : Int} {n m : Nat} {a b : Value} {w : World} (h1 : PInt x n a w) (h2 : PInt y m b w) (hn : n ≤ 1000000) (hm : m ≤ 1000000) :
    Calls Tryd.prog 30 #[a, b] w fun e w' => e = .returned (.int .i64 (cmpI x y)) ∧ Below w.heap.size w w' := by
  obtain ⟨k, A, c, L, rfl, i1, rfl, l1⟩ := h1
  obtain ⟨k', A', c', M, rfl, i2, rfl, l2⟩ := h2
  exact cmp_any k k' A A' c c' L M w (by omega) (by omega) i1 i2
theorem sgnI_cmp {w : World} {B : Nat} {n : Bool} {A : Option Addr} {c : Nat} {L : List Nat} (h : IntR w B n A c L) : sgnI n L = cmpI (zI n L) 0 := by
  unfold sgnI zI cmpI
  cases n
  · rcases Nat.eq_zero_or_pos L.length with h0 | h0
    · have : L = [] := List.eq_nil_of_length_eq_zero h0
      subst this; simp [valB]
    · have := canon_pos h.canon h0
      have h1 : ¬ L.length = 0 := by omega
      have h2 : ¬ ((val9 L : Nat) : Int) < 0 := by omega
      have h3 : ¬ ((val9 L : Nat) : Int) = 0 := by omega
      simp only [Bool.false_eq_true, if_false]
      rw [if_neg h1, if_neg h2, if_neg h3]
  · have h1 := List.length_pos_iff.2 (h.sgn rfl)
    have := canon_pos h.canon h1
    have h2 : -((val9 L : Nat) : Int) < 0 := by omega
    simp only [if_true]
    rw [if_pos h2]
theorem sign_fact {x : Int} {n : Nat} {a : Value} {w : World} (h1 : PInt x n a w) :
    Calls Tryd.prog 15 #[a] w fun e w' => e = .returned (.int .i64 (cmpI x 0)) ∧ Below w.heap.size w w' := by
  obtain ⟨k, A, c, L, rfl, i1, rfl, l1⟩ := h1
  rw [← sgnI_cmp i1]
  exact sign_any k A c L w
theorem sign_is {x c : Int} {n : Nat} {a : Value} {w : World} (h1 : PInt x n a w) (hc : cmpI x 0 = c) :
    Calls Tryd.prog 15 #[a] w fun e w' => e = .returned (.int .i64 c) ∧ Below w.heap.size w w' := hc ▸ sign_fact h1
theorem cmp_is {x y c : Int} {n m : Nat} {a b : Value} {w : World} (h1 : PInt x n a w) (h2 : PInt y m b w) (hn : n ≤ 1000000) (hm : m ≤ 1000000) (hc : cmpI x y = c) :
    Calls Tryd.prog 30 #[a, b] w fun e w' => e = .returned (.int .i64 c) ∧ Below w.heap.size w w' := hc ▸ cmp_fact h1 h2 hn hm
theorem equal_fact {x y : Int} {n m : Nat} {a b : Value} {w : World} (h1 : PInt x n a w) (h2 : PInt y m b w) (hn : n ≤ 100000) (hm : m ≤ 100000) (hxy : x = y) (ht : Tab w.heap.size w) :
    Calls Tryd.prog 36 #[a, b] w fun e w' => e = .returned (.bool true) ∧ Below w.heap.size w w' := by
  obtain ⟨k, A, c, L, rfl, i1, rfl, l1⟩ := h1
  obtain ⟨k', A', c', M, rfl, i2, rfl, l2⟩ := h2
  exact equal_true k k' A A' c c' L M w (by omega) (by omega) i1 i2 hxy ht
theorem same_fact {x y : Int} {n m : Nat} {a b : Value} {w : World} (h1 : PInt x n a w) (h2 : PRef y m b w) (hn : n ≤ 100000) (hm : m ≤ 100000) (hxy : x = y) (ht : Tab w.heap.size w) :
    Calls Tryd.prog 17 #[a, b] w fun e w' => e = .returned (.bool true) ∧ Below w.heap.size w w' := by
  obtain ⟨k, A, c, L, rfl, i1, rfl, l1⟩ := h1
  obtain ⟨k', A', c', M, rfl, i2, rfl, l2⟩ := h2
  exact same_true k k' A A' c c' L M w (by omega) (by omega) i1 i2 hxy ht
end Go.Proofs.YtbfbijokhlkekaaDoor

/- 'abs' of the statements; 'QuoRem' as a fact. -/
namespace Go.Proofs.YtbfbijokhlkekaaDoor
open Go.RowKit

set_option maxRecDepth 20000 in
set_option maxHeartbeats 3200000 in
theorem abs_any (n : Bool) (A : Option Addr) (c : Nat) (L : List Nat) (w : World) (hl : L.length ≤ 500000) (hL : IntR w w.heap.size n A c L) :
    Calls Tryd.prog 37 #[.agg #[.bool n, .slice A L.length c]] w fun e w' => ∃ k A c, e = .returned (.agg #[.bool k, .slice A L.length c]) ∧
      IntR w' w'.heap.size k A c L ∧ zI k L = ((zI n L).natAbs : Int) ∧ Below w.heap.size w w' := by
  have hsg := fun W => sign_any n A c L W
  have hng := fun W h => neg_any n A c L W hl h
  have HSG := Lib.hid hsg
  have HNG := Lib.hid hng
  have hz0 : n = false → zI n L = ((zI n L).natAbs : Int) := by rintro rfl; unfold zI; simp
  have hz1 : n = true → - zI n L = ((zI n L).natAbs : Int) := by rintro rfl; unfold zI; simp
  have hs0 : n = false → decide (sgnI n L < 0) = false := by rintro rfl; unfold sgnI; simp; split <;> omega
  have hs1 : n = true → decide (sgnI n L < 0) = true := by rintro rfl; unfold sgnI; simp
  have Y := two (Below.refl _ ((w.alloc (.cells #[.bool n, .slice A L.length c] 25)).alloc (.cells #[.bool false, .slice none 0 0] 25)))
  have hba := below_a2 w (.cells #[.bool n, .slice A L.length c] 25) (.cells #[.bool false, .slice none 0 0] 25)
  have hbx := (Box.new w (.bool n) (.slice A L.length c) 25).below (below_alloc_new (w := w.alloc (.cells #[.bool n, .slice A L.length c] 25)) (.cells #[.bool false, .slice none 0 0] 25)) (by simp)
  have hbr := Box.new (w.alloc (.cells #[.bool n, .slice A L.length c] 25)) (.bool false) (.slice none 0 0) 25
  have hsz : ((w.alloc (.cells #[.bool n, .slice A L.length c] 25)).alloc (.cells #[.bool false, .slice none 0 0] 25)).heap.size = w.heap.size + 1 + 1 := by simp
  rw [show (w.alloc (.cells #[.bool n, .slice A L.length c] 25)).heap.size = w.heap.size + 1 by simp] at hbr
  clear Y hsg hng
  generalize hl' : L.length = l at *
  have HLL := Lib.hid hl'
  clear hl'
  go_enter Tryd.func37, Tryd.ntmps37
  go_upto_region 1 with (fail)
  change Code.wp Tryd.prog _ _ _ ((w.alloc (.cells #[.bool n, .slice A l c] 25)).alloc (.cells #[.bool false, .slice none 0 0] 25))
  generalize (w.alloc (.cells #[.bool n, .slice A l c] 25)).alloc (.cells #[.bool false, .slice none 0 0] 25) = W0 at *
  have i0 := hL.up hba
  have x0 := hbx.c0
  have x1 := hbx.c1
  go_wp2_with fail
  refine (HSG.out _).mono ?_
  rintro e w1 ⟨rfl, hb1⟩
  have b0 := hbx.below hb1 (by omega)
  have b1 := hbr.below hb1 (by omega)
  have i1 := i0.up hb1
  have HB := Lib.hid (hba.trans (Below.less hb1 (by omega)))
  have hs1' := hb1.size
  clear hbx hbr x0 x1 hb1 hba i0
  have x0 := b0.c0
  have x1 := b0.c1
  have y0 := b1.c0
  have y1 := b1.c1
  have z0 := b1.f0
  have z1 := b1.f1
  generalize sgnI n L = sg at *
  cases n
  · have hd := hs0 rfl
    have HZ := Lib.hid (hz0 rfl)
    clear hs0 hs1 hz0 hz1
    have HB1 := Lib.hid b1
    have HI := Lib.hid i1
    clear b0 b1 i1
    go_wp2_with fail
    refine bodyPost_ret (v := .agg #[.bool false, .slice A l c]) (by simp [results, Tryd.results37, go_sem, y0, y1]) rfl ⟨_, _, _, rfl, ?_, HZ.out, (HB.out.setCell (by simp) _).setCell (by simp) _⟩
    rw [setCell_size, setCell_size]
    exact IntR.pair HB1.out HI.out _ _
  · have hd := hs1 rfl
    have HZ := Lib.hid (hz1 rfl)
    clear hs0 hs1 hz0 hz1
    go_wp2_with fail
    refine (HNG.out _ i1).mono ?_
    rintro e w2 ⟨k2, A2, c2, rfl, i2, hz2, hb2⟩
    have b3 := b1.below hb2 (by omega)
    have HB2 := Lib.hid (below_then HB.out hb2 (by omega))
    have HB3 := Lib.hid b3
    have HI := Lib.hid i2
    have HZ2 := Lib.hid hz2
    clear x0 x1 y0 y1 z0 z1 b0 b1 hb2 i1 i2 hz2
    have y0 := b3.c0
    have y1 := b3.c1
    have z0 := b3.f0
    have z1 := b3.f1
    clear b3
    go_wp2_with fail
    refine bodyPost_ret (v := .agg #[.bool k2, .slice A2 l c2]) (by simp [results, Tryd.results37, go_sem, y0, y1]) rfl ⟨_, _, _, rfl, ?_, by rw [HZ2.out]; exact HZ.out, (HB2.out.setCell (by simp) _).setCell (by simp) _⟩
    rw [setCell_size, setCell_size]
    exact IntR.pair HB3.out HI.out _ _
theorem abs_fact {x : Int} {n : Nat} {a : Value} {w : World} (h1 : PInt x n a w) (hn : n ≤ 500000) :
    Calls Tryd.prog 37 #[a] w fun e w' => ∃ v, e = .returned v ∧ PInt (x.natAbs : Int) n v w' ∧ Below w.heap.size w w' := by
  obtain ⟨k, A, c, L, rfl, i1, rfl, l1⟩ := h1
  refine (abs_any k A c L w (by omega) i1).mono ?_
  rintro e w' ⟨q, B, d, rfl, hi, hz, hb⟩
  exact ⟨_, rfl, ⟨q, B, d, L, rfl, hi, hz, by omega⟩, hb⟩
end Go.Proofs.YtbfbijokhlkekaaDoor

/- IntegerDivides: for every two texts the statement about quotient and remainder returns true. -/
namespace Go.Proofs.YtbfbijokhlkekaaDoor
open Go.RowKit

/-- Two new boxes. -/
theorem two_boxes (w : World) (x0 y0 x1 y1 : Value) (t0 t1 : TypeId) :
    let W := (w.alloc (.cells #[x0, y0] t0)).alloc (.cells #[x1, y1] t1)
    Box W w.heap.size x0 y0 ∧ Box W (w.heap.size + 1) x1 y1 ∧ W.heap.size = w.heap.size + 2 ∧ Below w.heap.size w W := by
  intro W
  have s1 : (w.alloc (.cells #[x0, y0] t0)).heap.size = w.heap.size + 1 := by simp
  have b0 := Box.new w x0 y0 t0
  have b1 := Box.new (w.alloc (.cells #[x0, y0] t0)) x1 y1 t1
  have a1 := below_alloc_new (w := w.alloc (.cells #[x0, y0] t0)) (.cells #[x1, y1] t1)
  rw [s1] at b1 a1
  exact ⟨b0.below a1 (by omega), b1, by simp [W], below_a2 w _ _⟩
theorem sign_zero' (w : World) : Calls Tryd.prog 15 #[.agg #[.bool false, .slice none 0 0]] w fun e w' => e = .returned (.int .i64 0) ∧ Below w.heap.size w w' := sign_any false none 0 [] w
theorem cmp_neg_abs {x y : Int} (hy : y ≠ 0) : cmpI ((Int.tmod x y).natAbs : Int) (y.natAbs : Int) = -1 := by
  have h1 : (Int.tmod x y).natAbs < y.natAbs := by
    rw [Int.natAbs_tmod]
    exact Nat.mod_lt _ (by omega)
  unfold cmpI
  rw [if_pos (by omega)]
theorem sgn_tmod {x y : Int} (h : Int.tmod x y ≠ 0) : cmpI (Int.tmod x y) 0 = cmpI x 0 := by
  rcases Int.lt_or_le x 0 with hx | hx
  · have h1 : Int.tmod x y ≤ 0 := by
      have e : Int.tmod x y = -(Int.tmod (-x) y) := by rw [Int.neg_tmod]; omega
      have := Int.tmod_nonneg y (show 0 ≤ -x by omega)
      omega
    unfold cmpI
    rw [if_pos (by omega), if_pos hx]
  · have h1 := Int.tmod_nonneg y hx
    have hx0 : x ≠ 0 := by rintro rfl; simp at h
    unfold cmpI
    rw [if_neg (by omega), if_neg (by omega), if_neg (by omega), if_neg (by omega)]

def divFL1 (z1 z2 : Int) : List (Nat × Fact) := [(48, .is (.int .i64 0)), (49, .is (.bool true)), (50, .is (.bool true)), (51, .int (z1) 223), (52, .int (Int.tdiv z1 z2) 223), (53, .int (z2) 223), (54, .int ((Int.tdiv z1 z2) * (z2)) 446), (55, .int (Int.tmod z1 z2) 224), (56, .int (((Int.tdiv z1 z2) * (z2)) + (Int.tmod z1 z2)) 671), (57, .is (.bool true)), (58, .is (.bool true)), (59, .is (.bool true)), (60, .int (Int.tmod z1 z2) 224), (61, .int (((Int.tmod z1 z2).natAbs : Int)) 224), (62, .int (z2) 223), (63, .int (((z2).natAbs : Int)) 223), (64, .is (.int .i64 (-1))), (65, .is (.bool true)), (66, .is (.bool true)), (67, .is (.bool true)), (68, .int (Int.tmod z1 z2) 224), (69, .is (.int .i64 (0))), (70, .is (.bool true)), (71, .is (.bool true)), (72, .is undef), (73, .is undef), (74, .is undef), (75, .is undef), (76, .is undef), (77, .is (.bool true)), (78, .is (.bool true)), (4, .is (.bool true))]
def divFL2 (z1 z2 sr sx : Int) : List (Nat × Fact) := [(48, .is (.int .i64 0)), (49, .is (.bool true)), (50, .is (.bool true)), (51, .int (z1) 223), (52, .int (Int.tdiv z1 z2) 223), (53, .int (z2) 223), (54, .int ((Int.tdiv z1 z2) * (z2)) 446), (55, .int (Int.tmod z1 z2) 224), (56, .int (((Int.tdiv z1 z2) * (z2)) + (Int.tmod z1 z2)) 671), (57, .is (.bool true)), (58, .is (.bool true)), (59, .is (.bool true)), (60, .int (Int.tmod z1 z2) 224), (61, .int (((Int.tmod z1 z2).natAbs : Int)) 224), (62, .int (z2) 223), (63, .int (((z2).natAbs : Int)) 223), (64, .is (.int .i64 (-1))), (65, .is (.bool true)), (66, .is (.bool true)), (67, .is (.bool true)), (68, .int (Int.tmod z1 z2) 224), (69, .is (.int .i64 (sr))), (70, .is (.bool false)), (71, .is (.bool false)), (72, .int (Int.tmod z1 z2) 224), (73, .is (.int .i64 (sx))), (74, .int (z1) 223), (75, .is (.int .i64 (sx))), (76, .is (.bool true)), (77, .is (.bool true)), (78, .is (.bool true)), (4, .is (.bool true))]

set_option maxRecDepth 20000 in
set_option maxHeartbeats 6400000 in
theorem law_divides (s t : ByteArray) (w : World) (htab : Tab w.heap.size w) :
    Calls Tryd.prog 9 #[.string s, .string t] w fun e w' => e = .returned (.bool true) ∧ Below w.heap.size w w' := by
  have HT := Lib.hid htab
  have HBO := Lib.hid (fun W => both_any s t W)
  clear htab
  go_enter Tryd.func9, Tryd.ntmps9
  go_wp2_with fail
  refine (awake_any w HT.out).mono ?_
  rintro e w1 ⟨rfl, hb1⟩
  go_wp2_with fail
  refine (HBO.out _).mono ?_
  rintro e w2 ⟨k1, A1, c1, L1, k2, A2, c2, L2, k3, A3, c3, L3, k4, A4, c4, L4, ok, rfl, I1, I2, -, -, hl1, hl2, -, -, -, hb2⟩
  have hb12 := hb1.trans (Below.less hb2 hb1.size)
  clear hb1 hb2
  have F := four_boxes w2 (.bool k1) (.slice A1 (List.length L1) c1) (.bool k2) (.slice A2 (List.length L2) c2) (.bool k3) (.slice A3 (List.length L3) c3) (.bool k4) (.slice A4 (List.length L4) c4) 25 25 31 31
  cases ok
  · have HB := Lib.hid hb12
    clear hb12
    go_wp2_with fail
    go_ret
    exact ⟨rfl, HB.out.trans (Below.less F.2.2.2.2.2 HB.out.size)⟩
  · go_upto_region 6 with (fail)
    change Code.wp Tryd.prog _ _ _ ((((w2.alloc (.cells #[.bool k1, .slice A1 (List.length L1) c1] 25)).alloc (.cells #[.bool k2, .slice A2 (List.length L2) c2] 25)).alloc (.cells #[.bool k3, .slice A3 (List.length L3) c3] 31)).alloc (.cells #[.bool k4, .slice A4 (List.length L4) c4] 31))
    generalize (((w2.alloc (.cells #[.bool k1, .slice A1 (List.length L1) c1] 25)).alloc (.cells #[.bool k2, .slice A2 (List.length L2) c2] 25)).alloc (.cells #[.bool k3, .slice A3 (List.length L3) c3] 31)).alloc (.cells #[.bool k4, .slice A4 (List.length L4) c4] 31) = V at *
    obtain ⟨b0, b1, -, -, hsz, hbw⟩ := F
    have J1 := I1.up hbw
    have J2 := I2.up hbw
    have hbV := hb12.trans (Below.less hbw hb12.size)
    clear I1 I2 hb12 hbw
    have x0 := b0.c0
    have x1 := b0.c1
    have x2 := b1.c0
    have x3 := b1.c1
    rcases Nat.eq_zero_or_pos (List.length L2) with h0 | hpos
    · have hL2 : L2 = [] := List.eq_nil_of_length_eq_zero h0
      subst hL2
      have hk2 : k2 = false := by
        cases k2
        · rfl
        · exact absurd rfl (J2.sgn rfl)
      subst hk2
      have HB := Lib.hid hbV
      have B0 := Lib.hid b0
      have B1 := Lib.hid b1
      have HSZ := Lib.hid hsz
      clear hbV b0 b1 hsz h0
      go_wp2_with fail
      refine (quoRem_zero k1 false A1 A2 c1 c2 L1 V).mono ?_
      rintro e w3 ⟨rfl, hb3⟩
      have HB3 := Lib.hid (HB.out.trans (Below.less hb3 HB.out.size))
      have X2 := Lib.hid (B1.out.below hb3 (by have := HSZ.out; omega))
      have F2 := two_boxes w3 (.bool false) (.slice none 0 0) (.bool false) (.slice none 0 0) 25 25
      have hlt9 := hb3.size
      clear x0 x1 x2 x3 hb3
      go_upto_region 7 with (fail)
      change Code.wp Tryd.prog _ _ _ ((w3.alloc (.cells #[.bool false, .slice none 0 0] 25)).alloc (.cells #[.bool false, .slice none 0 0] 25))
      generalize (w3.alloc (.cells #[.bool false, .slice none 0 0] 25)).alloc (.cells #[.bool false, .slice none 0 0] 25) = W at *
      obtain ⟨c0, c1', hsz3, hbw3⟩ := F2
      have hx2 := X2.out.below hbw3 (by have := HSZ.out; omega)
      have HBW := Lib.hid (HB3.out.trans (Below.less hbw3 HB3.out.size))
      have hw0 : w2.heap.size + 1 < W.heap.size := by have := HSZ.out; omega
      have hw1 : w3.heap.size < W.heap.size := by omega
      have hw2 : w3.heap.size + 1 < W.heap.size := by omega
      have y0 := hx2.c0
      have y1 := hx2.c1
      have HX2 := Lib.hid hx2
      have C0 := Lib.hid c0
      have C1 := Lib.hid c1'
      clear hbw3 hsz3 hlt9 hx2 c0 c1'
      go_wp2_with fail
      refine (sign_any false A2 c2 [] W).mono ?_
      rintro e w4 ⟨rfl, hb4⟩
      have y2 := (C0.out.below hb4 hw1).c0
      have y3 := (C0.out.below hb4 hw1).c1
      have y4 := (C1.out.below hb4 hw2).c0
      have y5 := (C1.out.below hb4 hw2).c1
      have hs0 : (sgnI false [] == 0) = true := rfl
      have HC := Lib.hid hb4
      clear y0 y1 hb4
      go_wp2_with fail
      refine (sign_zero' w4).mono ?_
      rintro e w5 ⟨rfl, hb5⟩
      have HC9 := Lib.hid (below_then HC.out hb5 HC.out.size)
      clear HC y2 y3 y4 y5 hb5
      have HC := HC9
      clear HC9
      have y4 := (C1.out.below HC.out hw2).c0
      have y5 := (C1.out.below HC.out hw2).c1
      go_wp2_with fail
      refine (sign_zero' w5).mono ?_
      rintro e w6 ⟨rfl, hb6⟩
      have HC9 := Lib.hid (below_then HC.out hb6 HC.out.size)
      clear hb6 y4 y5
      go_wp2
      go_ret
      exact ⟨rfl, HBW.out.trans (Below.less HC9.out HBW.out.size)⟩
    · have hy : zI k2 L2 ≠ 0 := by
        have := canon_pos J2.canon hpos
        unfold zI
        cases k2 <;> simp only [Bool.false_eq_true, if_false, if_true] <;> omega
      have hsg : (sgnI k2 L2 == 0) = false := by
        rw [beq_eq_false_iff_ne]
        unfold sgnI
        cases k2
        · rw [if_neg (by simp), if_neg (by omega)]; omega
        · simp
      have HB := Lib.hid hbV
      have B0 := Lib.hid b0
      have B1 := Lib.hid b1
      have HSZ := Lib.hid hsz
      have hqr := quoRem_pos k1 k2 A1 A2 c1 c2 L1 L2 V (by omega) (by omega) hpos J1 J2
      have HQR := Lib.hid hqr
      have HSG := Lib.hid hsg
      clear hbV b0 b1 hsz hqr hsg
      go_wp2_with fail
      refine HQR.out.mono ?_
      rintro e w3 ⟨k5, A5, c5, L5, k6, A6, c6, L6, rfl, I5, I6, hz5, hz6, hl5, hl6, hb3⟩
      have X1 := B0.out.below hb3 (by have := HSZ.out; omega)
      have X2 := B1.out.below hb3 (by have := HSZ.out; omega)
      have J1' := J1.up hb3
      have J2' := J2.up hb3
      have HB3 := Lib.hid (HB.out.trans (Below.less hb3 HB.out.size))
      have F2 := two_boxes w3 (.bool k5) (.slice A5 (List.length L5) c5) (.bool k6) (.slice A6 (List.length L6) c6) 25 25
      have hlt9 := hb3.size
      have HX1 := Lib.hid X1
      have HX2 := Lib.hid X2
      have HZ5 := Lib.hid hz5
      have HZ6 := Lib.hid hz6
      clear x0 x1 x2 x3 hb3 X1 X2 hz5 hz6
      go_upto_region 7 with (fail)
      change Code.wp Tryd.prog _ _ _ ((w3.alloc (.cells #[.bool k5, .slice A5 (List.length L5) c5] 25)).alloc (.cells #[.bool k6, .slice A6 (List.length L6) c6] 25))
      generalize (w3.alloc (.cells #[.bool k5, .slice A5 (List.length L5) c5] 25)).alloc (.cells #[.bool k6, .slice A6 (List.length L6) c6] 25) = W at *
      obtain ⟨x2, x3, hsz3, hbw3⟩ := F2
      have x0 := HX1.out.below hbw3 (by have := HSZ.out; omega)
      have x1 := HX2.out.below hbw3 (by have := HSZ.out; omega)
      have HWW := Lib.hid (HB3.out.trans (Below.less hbw3 HB3.out.size))
      have HTW := Lib.hid (tab_up HT.out HWW.out)
      have p1 : PInt (zI k1 L1) 223 (.agg #[.bool k1, .slice A1 (List.length L1) c1]) W := ⟨_, _, _, _, rfl, J1'.up hbw3, rfl, hl1⟩
      have p2 : PInt (zI k2 L2) 223 (.agg #[.bool k2, .slice A2 (List.length L2) c2]) W := ⟨_, _, _, _, rfl, J2'.up hbw3, rfl, hl2⟩
      have p3 : PInt (Int.tdiv (zI k1 L1) (zI k2 L2)) 223 (.agg #[.bool k5, .slice A5 (List.length L5) c5]) W := ⟨_, _, _, _, rfl, I5.up hbw3, HZ5.out, by omega⟩
      have p4 : PInt (Int.tmod (zI k1 L1) (zI k2 L2)) 224 (.agg #[.bool k6, .slice A6 (List.length L6) c6]) W := ⟨_, _, _, _, rfl, I6.up hbw3, HZ6.out, by omega⟩
      have hlt0 : w2.heap.size < W.heap.size := by have := HSZ.out; omega
      have hlt1 : w2.heap.size + 1 < W.heap.size := by have := HSZ.out; omega
      have hlt2 : w3.heap.size < W.heap.size := by omega
      have hlt3 : w3.heap.size + 1 < W.heap.size := by omega
      have HC := Lib.hid (Below.refl W.heap.size W)
      have hsy := sign_any k2 A2 c2 L2 W
      have HSY := Lib.hid hsy
      clear hbw3 hsz3 hlt9 J1 J2 J1' J2' I5 I6 hl1 hl2 hl5 hl6 HX1 HX2 HZ5 HZ6 HQR B0 B1 hsy hpos
      have y0 := x1.c0
      have y1 := x1.c1
      go_wp2_with fail
      refine HSY.out.mono ?_
      rintro e w4 ⟨rfl, hb4⟩
      have hsg := HSG.out
      have HC9 := Lib.hid hb4
      clear HC y0 y1 hb4
      have HC := HC9
      clear HC9
      go_wp2_with fail
      have EQ := Lib.hid (show Int.tdiv (zI k1 L1) (zI k2 L2) * zI k2 L2 + Int.tmod (zI k1 L1) (zI k2 L2) = zI k1 L1 by rw [Int.mul_comm]; exact Int.mul_tdiv_add_tmod _ _)
      have CMA := Lib.hid (cmp_neg_abs (x := zI k1 L1) hy)
      clear hsg HSG HSY hy
      generalize zI k1 L1 = z1 at *
      generalize zI k2 L2 = z2 at *
      generalize List.length L1 = n1 at *
      generalize List.length L2 = n2 at *
      generalize List.length L5 = n5 at *
      generalize List.length L6 = n6 at *
      generalize sgnI k2 L2 = sy at *
      by_cases hr : Int.tmod z1 z2 = 0
      · have SR := Lib.hid (show cmpI (Int.tmod z1 z2) 0 = 0 by rw [hr]; rfl)
        clear hr
        refine region_facts (divFL1 z1 z2) (fun w' => Below W.heap.size W w') [[], [48], [49], [50], [50], [50], [50, 52, 53], [50], [50, 54, 55], [50, 51, 56], [50, 57], [58], [59], [59, 60], [59], [59, 62], [59, 61, 63], [59, 64], [59, 65], [66], [67], [67, 68], [67, 69], [67, 70], [71], [71], [71], [71], [71], [67, 71, 76], [67, 77], [78]] (fun u => by simp only [divFL1, temps, List.map_cons, List.map_nil, fillL, List.setIfInBounds_toArray, List.set_cons_zero, List.set_cons_succ]; rfl) (by kernel_rfl) (by kernel_rfl) (by kernel_rfl) (below_drew HC.out) ?_ ?_
        · refine StepsFr.cons ?_ ?_
          · intro u w hJ hF K hK
            clear hF
            go_simp
            exact hK.out _ _ hJ (Below.refl _ _) (rfl)
          refine StepsFr.cons ?_ ?_
          · intro u w hJ hF K hK
            have h48 : u 48 = .int .i64 0 := facts_get hF 48 (by simp)
            clear hF
            simp only [h48] at hK ⊢
            clear h48
            go_simp
            exact hK.out _ _ hJ (Below.refl _ _) rfl
          refine StepsFr.cons ?_ ?_
          · intro u w hJ hF K hK
            have h49 : u 49 = .bool true := facts_get hF 49 (by simp)
            clear hF
            simp only [h49] at hK ⊢
            clear h49
            go_simp
            exact hK.out _ _ hJ (Below.refl _ _) (rfl)
          refine StepsFr.cons ?_ ?_
          · intro u w hJ hF K hK
            have h50 : u 50 = .bool true := facts_get hF 50 (by simp)
            clear hF
            simp only [h50] at hK ⊢
            clear h50
            have hf0 := (below_atB (i := 0) hJ hlt0).trans x0.c0
            have hf1 := (below_atB (i := 1) hJ hlt0).trans x0.c1
            go_simp
            exact hK.out _ _ hJ (Below.refl _ _) (p1.up hJ)
          refine StepsFr.cons ?_ ?_
          · intro u w hJ hF K hK
            have h50 : u 50 = .bool true := facts_get hF 50 (by simp)
            clear hF
            simp only [h50] at hK ⊢
            clear h50
            have hf4 := (below_atB (i := 0) hJ hlt2).trans x2.c0
            have hf5 := (below_atB (i := 1) hJ hlt2).trans x2.c1
            go_simp
            exact hK.out _ _ hJ (Below.refl _ _) (p3.up hJ)
          refine StepsFr.cons ?_ ?_
          · intro u w hJ hF K hK
            have h50 : u 50 = .bool true := facts_get hF 50 (by simp)
            clear hF
            simp only [h50] at hK ⊢
            clear h50
            have hf2 := (below_atB (i := 0) hJ hlt1).trans x1.c0
            have hf3 := (below_atB (i := 1) hJ hlt1).trans x1.c1
            go_simp
            exact hK.out _ _ hJ (Below.refl _ _) (p2.up hJ)
          refine StepsFr.cons ?_ ?_
          · intro u w hJ hF K hK
            have h50 : u 50 = .bool true := facts_get hF 50 (by simp)
            have h52 : PInt (Int.tdiv z1 z2) 223 (u 52) w := facts_get hF 52 (by simp)
            have h53 : PInt (z2) 223 (u 53) w := facts_get hF 53 (by simp)
            clear hF
            simp only [h50] at hK ⊢
            clear h50
            go_simp
            refine (mul_fact h52 h53 (by omega) (by omega)).mono ?_
            rintro e w' ⟨v, rfl, hv, hb⟩
            exact hK.out _ _ (below_then hJ hb hJ.size) hb (hv)
          refine StepsFr.cons ?_ ?_
          · intro u w hJ hF K hK
            have h50 : u 50 = .bool true := facts_get hF 50 (by simp)
            clear hF
            simp only [h50] at hK ⊢
            clear h50
            have hf6 := (below_atB (i := 0) hJ hlt3).trans x3.c0
            have hf7 := (below_atB (i := 1) hJ hlt3).trans x3.c1
            go_simp
            exact hK.out _ _ hJ (Below.refl _ _) (p4.up hJ)
          refine StepsFr.cons ?_ ?_
          · intro u w hJ hF K hK
            have h50 : u 50 = .bool true := facts_get hF 50 (by simp)
            have h54 : PInt ((Int.tdiv z1 z2) * (z2)) 446 (u 54) w := facts_get hF 54 (by simp)
            have h55 : PInt (Int.tmod z1 z2) 224 (u 55) w := facts_get hF 55 (by simp)
            clear hF
            simp only [h50] at hK ⊢
            clear h50
            go_simp
            refine (add_fact h54 h55 (by omega) (by omega)).mono ?_
            rintro e w' ⟨v, rfl, hv, hb⟩
            exact hK.out _ _ (below_then hJ hb hJ.size) hb (hv)
          refine StepsFr.cons ?_ ?_
          · intro u w hJ hF K hK
            have h50 : u 50 = .bool true := facts_get hF 50 (by simp)
            have h51 : PInt (z1) 223 (u 51) w := facts_get hF 51 (by simp)
            have h56 : PInt (((Int.tdiv z1 z2) * (z2)) + (Int.tmod z1 z2)) 671 (u 56) w := facts_get hF 56 (by simp)
            clear hF
            simp only [h50] at hK ⊢
            clear h50
            go_simp
            refine (equal_fact h51 h56 (by omega) (by omega) ((EQ.out).symm) (tab_up HTW.out hJ)).mono ?_
            rintro e w' ⟨rfl, hb⟩
            exact hK.out _ _ (below_then hJ hb hJ.size) hb (rfl)
          refine StepsFr.cons ?_ ?_
          · intro u w hJ hF K hK
            have h50 : u 50 = .bool true := facts_get hF 50 (by simp)
            have h57 : u 57 = .bool true := facts_get hF 57 (by simp)
            clear hF
            simp only [h50, h57] at hK ⊢
            clear h50 h57
            go_simp
            exact hK.out _ _ hJ (Below.refl _ _) rfl
          refine StepsFr.cons ?_ ?_
          · intro u w hJ hF K hK
            have h58 : u 58 = .bool true := facts_get hF 58 (by simp)
            clear hF
            simp only [h58] at hK ⊢
            clear h58
            go_simp
            exact hK.out _ _ hJ (Below.refl _ _) (rfl)
          refine StepsFr.cons ?_ ?_
          · intro u w hJ hF K hK
            have h59 : u 59 = .bool true := facts_get hF 59 (by simp)
            clear hF
            simp only [h59] at hK ⊢
            clear h59
            have hf6 := (below_atB (i := 0) hJ hlt3).trans x3.c0
            have hf7 := (below_atB (i := 1) hJ hlt3).trans x3.c1
            go_simp
            exact hK.out _ _ hJ (Below.refl _ _) (p4.up hJ)
          refine StepsFr.cons ?_ ?_
          · intro u w hJ hF K hK
            have h59 : u 59 = .bool true := facts_get hF 59 (by simp)
            have h60 : PInt (Int.tmod z1 z2) 224 (u 60) w := facts_get hF 60 (by simp)
            clear hF
            simp only [h59] at hK ⊢
            clear h59
            go_simp
            refine (abs_fact h60 (by omega)).mono ?_
            rintro e w' ⟨v, rfl, hv, hb⟩
            exact hK.out _ _ (below_then hJ hb hJ.size) hb (hv)
          refine StepsFr.cons ?_ ?_
          · intro u w hJ hF K hK
            have h59 : u 59 = .bool true := facts_get hF 59 (by simp)
            clear hF
            simp only [h59] at hK ⊢
            clear h59
            have hf2 := (below_atB (i := 0) hJ hlt1).trans x1.c0
            have hf3 := (below_atB (i := 1) hJ hlt1).trans x1.c1
            go_simp
            exact hK.out _ _ hJ (Below.refl _ _) (p2.up hJ)
          refine StepsFr.cons ?_ ?_
          · intro u w hJ hF K hK
            have h59 : u 59 = .bool true := facts_get hF 59 (by simp)
            have h62 : PInt (z2) 223 (u 62) w := facts_get hF 62 (by simp)
            clear hF
            simp only [h59] at hK ⊢
            clear h59
            go_simp
            refine (abs_fact h62 (by omega)).mono ?_
            rintro e w' ⟨v, rfl, hv, hb⟩
            exact hK.out _ _ (below_then hJ hb hJ.size) hb (hv)
          refine StepsFr.cons ?_ ?_
          · intro u w hJ hF K hK
            have h59 : u 59 = .bool true := facts_get hF 59 (by simp)
            have h61 : PInt (((Int.tmod z1 z2).natAbs : Int)) 224 (u 61) w := facts_get hF 61 (by simp)
            have h63 : PInt (((z2).natAbs : Int)) 223 (u 63) w := facts_get hF 63 (by simp)
            clear hF
            simp only [h59] at hK ⊢
            clear h59
            go_simp
            refine (cmp_is h61 h63 (by omega) (by omega) (CMA.out)).mono ?_
            rintro e w' ⟨rfl, hb⟩
            exact hK.out _ _ (below_then hJ hb hJ.size) hb (rfl)
          refine StepsFr.cons ?_ ?_
          · intro u w hJ hF K hK
            have h59 : u 59 = .bool true := facts_get hF 59 (by simp)
            have h64 : u 64 = .int .i64 (-1) := facts_get hF 64 (by simp)
            clear hF
            simp only [h59, h64] at hK ⊢
            clear h59 h64
            go_simp
            exact hK.out _ _ hJ (Below.refl _ _) rfl
          refine StepsFr.cons ?_ ?_
          · intro u w hJ hF K hK
            have h59 : u 59 = .bool true := facts_get hF 59 (by simp)
            have h65 : u 65 = .bool true := facts_get hF 65 (by simp)
            clear hF
            simp only [h59, h65] at hK ⊢
            clear h59 h65
            go_simp
            exact hK.out _ _ hJ (Below.refl _ _) rfl
          refine StepsFr.cons ?_ ?_
          · intro u w hJ hF K hK
            have h66 : u 66 = .bool true := facts_get hF 66 (by simp)
            clear hF
            simp only [h66] at hK ⊢
            clear h66
            go_simp
            exact hK.out _ _ hJ (Below.refl _ _) (rfl)
          refine StepsFr.cons ?_ ?_
          · intro u w hJ hF K hK
            have h67 : u 67 = .bool true := facts_get hF 67 (by simp)
            clear hF
            simp only [h67] at hK ⊢
            clear h67
            have hf6 := (below_atB (i := 0) hJ hlt3).trans x3.c0
            have hf7 := (below_atB (i := 1) hJ hlt3).trans x3.c1
            go_simp
            exact hK.out _ _ hJ (Below.refl _ _) (p4.up hJ)
          refine StepsFr.cons ?_ ?_
          · intro u w hJ hF K hK
            have h67 : u 67 = .bool true := facts_get hF 67 (by simp)
            have h68 : PInt (Int.tmod z1 z2) 224 (u 68) w := facts_get hF 68 (by simp)
            clear hF
            simp only [h67] at hK ⊢
            clear h67
            go_simp
            refine (sign_is h68 (SR.out)).mono ?_
            rintro e w' ⟨rfl, hb⟩
            exact hK.out _ _ (below_then hJ hb hJ.size) hb (rfl)
          refine StepsFr.cons ?_ ?_
          · intro u w hJ hF K hK
            have h67 : u 67 = .bool true := facts_get hF 67 (by simp)
            have h69 : u 69 = .int .i64 (0) := facts_get hF 69 (by simp)
            clear hF
            simp only [h67, h69] at hK ⊢
            clear h67 h69
            go_simp
            exact hK.out _ _ hJ (Below.refl _ _) rfl
          refine StepsFr.cons ?_ ?_
          · intro u w hJ hF K hK
            have h67 : u 67 = .bool true := facts_get hF 67 (by simp)
            have h70 : u 70 = .bool true := facts_get hF 70 (by simp)
            clear hF
            simp only [h67, h70] at hK ⊢
            clear h67 h70
            go_simp
            exact hK.out _ _ hJ (Below.refl _ _) (rfl)
          refine StepsFr.cons ?_ ?_
          · intro u w hJ hF K hK
            have h71 : u 71 = .bool true := facts_get hF 71 (by simp)
            clear hF
            simp only [h71] at hK ⊢
            clear h71
            go_simp
            exact hK.out _ _ hJ (Below.refl _ _) rfl
          refine StepsFr.cons ?_ ?_
          · intro u w hJ hF K hK
            have h71 : u 71 = .bool true := facts_get hF 71 (by simp)
            clear hF
            simp only [h71] at hK ⊢
            clear h71
            go_simp
            exact hK.out _ _ hJ (Below.refl _ _) rfl
          refine StepsFr.cons ?_ ?_
          · intro u w hJ hF K hK
            have h71 : u 71 = .bool true := facts_get hF 71 (by simp)
            clear hF
            simp only [h71] at hK ⊢
            clear h71
            go_simp
            exact hK.out _ _ hJ (Below.refl _ _) rfl
          refine StepsFr.cons ?_ ?_
          · intro u w hJ hF K hK
            have h71 : u 71 = .bool true := facts_get hF 71 (by simp)
            clear hF
            simp only [h71] at hK ⊢
            clear h71
            go_simp
            exact hK.out _ _ hJ (Below.refl _ _) rfl
          refine StepsFr.cons ?_ ?_
          · intro u w hJ hF K hK
            have h71 : u 71 = .bool true := facts_get hF 71 (by simp)
            clear hF
            simp only [h71] at hK ⊢
            clear h71
            go_simp
            exact hK.out _ _ hJ (Below.refl _ _) rfl
          refine StepsFr.cons ?_ ?_
          · intro u w hJ hF K hK
            have h67 : u 67 = .bool true := facts_get hF 67 (by simp)
            have h71 : u 71 = .bool true := facts_get hF 71 (by simp)
            have h76 : u 76 = undef := facts_get hF 76 (by simp)
            clear hF
            simp only [h67, h71, h76] at hK ⊢
            clear h67 h71 h76
            go_simp
            exact hK.out _ _ hJ (Below.refl _ _) rfl
          refine StepsFr.cons ?_ ?_
          · intro u w hJ hF K hK
            have h67 : u 67 = .bool true := facts_get hF 67 (by simp)
            have h77 : u 77 = .bool true := facts_get hF 77 (by simp)
            clear hF
            simp only [h67, h77] at hK ⊢
            clear h67 h77
            go_simp
            exact hK.out _ _ hJ (Below.refl _ _) rfl
          refine StepsFr.cons ?_ ?_
          · intro u w hJ hF K hK
            have h78 : u 78 = .bool true := facts_get hF 78 (by simp)
            clear hF
            simp only [h78] at hK ⊢
            clear h78
            go_simp
            exact hK.out _ _ hJ (Below.refl _ _) (rfl)
          exact StepsFr.nil
        · intro u w9 hJ9 hF
          have h4 : u 4 = .bool true := facts_get hF 4 (by simp [divFL1, temps])
          clear hF
          go_wp2
          go_ret
          exact ⟨by first | rfl | (show Ending.returned (u 4) = _; rw [h4]), HWW.out.trans (Below.less hJ9 HWW.out.size)⟩
      · have SR := Lib.hid (show cmpI (Int.tmod z1 z2) 0 = cmpI (Int.tmod z1 z2) 0 from rfl)
        have hsr : (cmpI (Int.tmod z1 z2) 0 == 0) = false := by rw [beq_eq_false_iff_ne]; unfold cmpI; (repeat' split) <;> omega
        have SR2 := Lib.hid (sgn_tmod hr)
        have SX := Lib.hid (show cmpI z1 0 = cmpI z1 0 from rfl)
        obtain ⟨sr, hsr2⟩ : ∃ sr, sr = cmpI (Int.tmod z1 z2) 0 := ⟨_, rfl⟩
        obtain ⟨sx, hsx2⟩ : ∃ sx, sx = cmpI z1 0 := ⟨_, rfl⟩
        have SR3 : Hid (cmpI (Int.tmod z1 z2) 0 = sr) := hsr2.symm
        have SR4 : Hid (cmpI (Int.tmod z1 z2) 0 = sx) := by show _ = _; rw [hsx2]; exact SR2.out
        have SX3 : Hid (cmpI z1 0 = sx) := hsx2.symm
        rw [← hsr2] at hsr
        clear hr SR SR2 SX hsr2 hsx2
        have SR := SR3
        have SR2 := SR4
        have SX := SX3
        clear SR3 SR4 SX3
        refine region_facts (divFL2 z1 z2 sr sx) (fun w' => Below W.heap.size W w') [[], [48], [49], [50], [50], [50], [50, 52, 53], [50], [50, 54, 55], [50, 51, 56], [50, 57], [58], [59], [59, 60], [59], [59, 62], [59, 61, 63], [59, 64], [59, 65], [66], [67], [67, 68], [67, 69], [67, 70], [71], [71, 72], [71], [71, 74], [71, 73, 75], [67, 71, 76], [67, 77], [78]] (fun u => by simp only [divFL2, temps, List.map_cons, List.map_nil, fillL, List.setIfInBounds_toArray, List.set_cons_zero, List.set_cons_succ]; rfl) (by kernel_rfl) (by kernel_rfl) (by kernel_rfl) (below_drew HC.out) ?_ ?_
        · refine StepsFr.cons ?_ ?_
          · intro u w hJ hF K hK
            clear hF
            go_simp
            exact hK.out _ _ hJ (Below.refl _ _) (rfl)
          refine StepsFr.cons ?_ ?_
          · intro u w hJ hF K hK
            have h48 : u 48 = .int .i64 0 := facts_get hF 48 (by simp)
            clear hF
            simp only [h48] at hK ⊢
            clear h48
            go_simp
            exact hK.out _ _ hJ (Below.refl _ _) rfl
          refine StepsFr.cons ?_ ?_
          · intro u w hJ hF K hK
            have h49 : u 49 = .bool true := facts_get hF 49 (by simp)
            clear hF
            simp only [h49] at hK ⊢
            clear h49
            go_simp
            exact hK.out _ _ hJ (Below.refl _ _) (rfl)
          refine StepsFr.cons ?_ ?_
          · intro u w hJ hF K hK
            have h50 : u 50 = .bool true := facts_get hF 50 (by simp)
            clear hF
            simp only [h50] at hK ⊢
            clear h50
            have hf0 := (below_atB (i := 0) hJ hlt0).trans x0.c0
            have hf1 := (below_atB (i := 1) hJ hlt0).trans x0.c1
            go_simp
            exact hK.out _ _ hJ (Below.refl _ _) (p1.up hJ)
          refine StepsFr.cons ?_ ?_
          · intro u w hJ hF K hK
            have h50 : u 50 = .bool true := facts_get hF 50 (by simp)
            clear hF
            simp only [h50] at hK ⊢
            clear h50
            have hf4 := (below_atB (i := 0) hJ hlt2).trans x2.c0
            have hf5 := (below_atB (i := 1) hJ hlt2).trans x2.c1
            go_simp
            exact hK.out _ _ hJ (Below.refl _ _) (p3.up hJ)
          refine StepsFr.cons ?_ ?_
          · intro u w hJ hF K hK
            have h50 : u 50 = .bool true := facts_get hF 50 (by simp)
            clear hF
            simp only [h50] at hK ⊢
            clear h50
            have hf2 := (below_atB (i := 0) hJ hlt1).trans x1.c0
            have hf3 := (below_atB (i := 1) hJ hlt1).trans x1.c1
            go_simp
            exact hK.out _ _ hJ (Below.refl _ _) (p2.up hJ)
          refine StepsFr.cons ?_ ?_
          · intro u w hJ hF K hK
            have h50 : u 50 = .bool true := facts_get hF 50 (by simp)
            have h52 : PInt (Int.tdiv z1 z2) 223 (u 52) w := facts_get hF 52 (by simp)
            have h53 : PInt (z2) 223 (u 53) w := facts_get hF 53 (by simp)
            clear hF
            simp only [h50] at hK ⊢
            clear h50
            go_simp
            refine (mul_fact h52 h53 (by omega) (by omega)).mono ?_
            rintro e w' ⟨v, rfl, hv, hb⟩
            exact hK.out _ _ (below_then hJ hb hJ.size) hb (hv)
          refine StepsFr.cons ?_ ?_
          · intro u w hJ hF K hK
            have h50 : u 50 = .bool true := facts_get hF 50 (by simp)
            clear hF
            simp only [h50] at hK ⊢
            clear h50
            have hf6 := (below_atB (i := 0) hJ hlt3).trans x3.c0
            have hf7 := (below_atB (i := 1) hJ hlt3).trans x3.c1
            go_simp
            exact hK.out _ _ hJ (Below.refl _ _) (p4.up hJ)
          refine StepsFr.cons ?_ ?_
          · intro u w hJ hF K hK
            have h50 : u 50 = .bool true := facts_get hF 50 (by simp)
            have h54 : PInt ((Int.tdiv z1 z2) * (z2)) 446 (u 54) w := facts_get hF 54 (by simp)
            have h55 : PInt (Int.tmod z1 z2) 224 (u 55) w := facts_get hF 55 (by simp)
            clear hF
            simp only [h50] at hK ⊢
            clear h50
            go_simp
            refine (add_fact h54 h55 (by omega) (by omega)).mono ?_
            rintro e w' ⟨v, rfl, hv, hb⟩
            exact hK.out _ _ (below_then hJ hb hJ.size) hb (hv)
          refine StepsFr.cons ?_ ?_
          · intro u w hJ hF K hK
            have h50 : u 50 = .bool true := facts_get hF 50 (by simp)
            have h51 : PInt (z1) 223 (u 51) w := facts_get hF 51 (by simp)
            have h56 : PInt (((Int.tdiv z1 z2) * (z2)) + (Int.tmod z1 z2)) 671 (u 56) w := facts_get hF 56 (by simp)
            clear hF
            simp only [h50] at hK ⊢
            clear h50
            go_simp
            refine (equal_fact h51 h56 (by omega) (by omega) ((EQ.out).symm) (tab_up HTW.out hJ)).mono ?_
            rintro e w' ⟨rfl, hb⟩
            exact hK.out _ _ (below_then hJ hb hJ.size) hb (rfl)
          refine StepsFr.cons ?_ ?_
          · intro u w hJ hF K hK
            have h50 : u 50 = .bool true := facts_get hF 50 (by simp)
            have h57 : u 57 = .bool true := facts_get hF 57 (by simp)
            clear hF
            simp only [h50, h57] at hK ⊢
            clear h50 h57
            go_simp
            exact hK.out _ _ hJ (Below.refl _ _) rfl
          refine StepsFr.cons ?_ ?_
          · intro u w hJ hF K hK
            have h58 : u 58 = .bool true := facts_get hF 58 (by simp)
            clear hF
            simp only [h58] at hK ⊢
            clear h58
            go_simp
            exact hK.out _ _ hJ (Below.refl _ _) (rfl)
          refine StepsFr.cons ?_ ?_
          · intro u w hJ hF K hK
            have h59 : u 59 = .bool true := facts_get hF 59 (by simp)
            clear hF
            simp only [h59] at hK ⊢
            clear h59
            have hf6 := (below_atB (i := 0) hJ hlt3).trans x3.c0
            have hf7 := (below_atB (i := 1) hJ hlt3).trans x3.c1
            go_simp
            exact hK.out _ _ hJ (Below.refl _ _) (p4.up hJ)
          refine StepsFr.cons ?_ ?_
          · intro u w hJ hF K hK
            have h59 : u 59 = .bool true := facts_get hF 59 (by simp)
            have h60 : PInt (Int.tmod z1 z2) 224 (u 60) w := facts_get hF 60 (by simp)
            clear hF
            simp only [h59] at hK ⊢
            clear h59
            go_simp
            refine (abs_fact h60 (by omega)).mono ?_
            rintro e w' ⟨v, rfl, hv, hb⟩
            exact hK.out _ _ (below_then hJ hb hJ.size) hb (hv)
          refine StepsFr.cons ?_ ?_
          · intro u w hJ hF K hK
            have h59 : u 59 = .bool true := facts_get hF 59 (by simp)
            clear hF
            simp only [h59] at hK ⊢
            clear h59
            have hf2 := (below_atB (i := 0) hJ hlt1).trans x1.c0
            have hf3 := (below_atB (i := 1) hJ hlt1).trans x1.c1
            go_simp
            exact hK.out _ _ hJ (Below.refl _ _) (p2.up hJ)
          refine StepsFr.cons ?_ ?_
          · intro u w hJ hF K hK
            have h59 : u 59 = .bool true := facts_get hF 59 (by simp)
            have h62 : PInt (z2) 223 (u 62) w := facts_get hF 62 (by simp)
            clear hF
            simp only [h59] at hK ⊢
            clear h59
            go_simp
            refine (abs_fact h62 (by omega)).mono ?_
            rintro e w' ⟨v, rfl, hv, hb⟩
            exact hK.out _ _ (below_then hJ hb hJ.size) hb (hv)
          refine StepsFr.cons ?_ ?_
          · intro u w hJ hF K hK
            have h59 : u 59 = .bool true := facts_get hF 59 (by simp)
            have h61 : PInt (((Int.tmod z1 z2).natAbs : Int)) 224 (u 61) w := facts_get hF 61 (by simp)
            have h63 : PInt (((z2).natAbs : Int)) 223 (u 63) w := facts_get hF 63 (by simp)
            clear hF
            simp only [h59] at hK ⊢
            clear h59
            go_simp
            refine (cmp_is h61 h63 (by omega) (by omega) (CMA.out)).mono ?_
            rintro e w' ⟨rfl, hb⟩
            exact hK.out _ _ (below_then hJ hb hJ.size) hb (rfl)
          refine StepsFr.cons ?_ ?_
          · intro u w hJ hF K hK
            have h59 : u 59 = .bool true := facts_get hF 59 (by simp)
            have h64 : u 64 = .int .i64 (-1) := facts_get hF 64 (by simp)
            clear hF
            simp only [h59, h64] at hK ⊢
            clear h59 h64
            go_simp
            exact hK.out _ _ hJ (Below.refl _ _) rfl
          refine StepsFr.cons ?_ ?_
          · intro u w hJ hF K hK
            have h59 : u 59 = .bool true := facts_get hF 59 (by simp)
            have h65 : u 65 = .bool true := facts_get hF 65 (by simp)
            clear hF
            simp only [h59, h65] at hK ⊢
            clear h59 h65
            go_simp
            exact hK.out _ _ hJ (Below.refl _ _) rfl
          refine StepsFr.cons ?_ ?_
          · intro u w hJ hF K hK
            have h66 : u 66 = .bool true := facts_get hF 66 (by simp)
            clear hF
            simp only [h66] at hK ⊢
            clear h66
            go_simp
            exact hK.out _ _ hJ (Below.refl _ _) (rfl)
          refine StepsFr.cons ?_ ?_
          · intro u w hJ hF K hK
            have h67 : u 67 = .bool true := facts_get hF 67 (by simp)
            clear hF
            simp only [h67] at hK ⊢
            clear h67
            have hf6 := (below_atB (i := 0) hJ hlt3).trans x3.c0
            have hf7 := (below_atB (i := 1) hJ hlt3).trans x3.c1
            go_simp
            exact hK.out _ _ hJ (Below.refl _ _) (p4.up hJ)
          refine StepsFr.cons ?_ ?_
          · intro u w hJ hF K hK
            have h67 : u 67 = .bool true := facts_get hF 67 (by simp)
            have h68 : PInt (Int.tmod z1 z2) 224 (u 68) w := facts_get hF 68 (by simp)
            clear hF
            simp only [h67] at hK ⊢
            clear h67
            go_simp
            refine (sign_is h68 (SR.out)).mono ?_
            rintro e w' ⟨rfl, hb⟩
            exact hK.out _ _ (below_then hJ hb hJ.size) hb (rfl)
          refine StepsFr.cons ?_ ?_
          · intro u w hJ hF K hK
            have h67 : u 67 = .bool true := facts_get hF 67 (by simp)
            have h69 : u 69 = .int .i64 (sr) := facts_get hF 69 (by simp)
            clear hF
            simp only [h67, h69] at hK ⊢
            clear h67 h69
            go_simp
            exact hK.out _ _ hJ (Below.refl _ _) rfl
          refine StepsFr.cons ?_ ?_
          · intro u w hJ hF K hK
            have h67 : u 67 = .bool true := facts_get hF 67 (by simp)
            have h70 : u 70 = .bool false := facts_get hF 70 (by simp)
            clear hF
            simp only [h67, h70] at hK ⊢
            clear h67 h70
            go_simp
            exact hK.out _ _ hJ (Below.refl _ _) (rfl)
          refine StepsFr.cons ?_ ?_
          · intro u w hJ hF K hK
            have h71 : u 71 = .bool false := facts_get hF 71 (by simp)
            clear hF
            simp only [h71] at hK ⊢
            clear h71
            have hf6 := (below_atB (i := 0) hJ hlt3).trans x3.c0
            have hf7 := (below_atB (i := 1) hJ hlt3).trans x3.c1
            go_simp
            exact hK.out _ _ hJ (Below.refl _ _) (p4.up hJ)
          refine StepsFr.cons ?_ ?_
          · intro u w hJ hF K hK
            have h71 : u 71 = .bool false := facts_get hF 71 (by simp)
            have h72 : PInt (Int.tmod z1 z2) 224 (u 72) w := facts_get hF 72 (by simp)
            clear hF
            simp only [h71] at hK ⊢
            clear h71
            go_simp
            refine (sign_is h72 (SR2.out)).mono ?_
            rintro e w' ⟨rfl, hb⟩
            exact hK.out _ _ (below_then hJ hb hJ.size) hb (rfl)
          refine StepsFr.cons ?_ ?_
          · intro u w hJ hF K hK
            have h71 : u 71 = .bool false := facts_get hF 71 (by simp)
            clear hF
            simp only [h71] at hK ⊢
            clear h71
            have hf0 := (below_atB (i := 0) hJ hlt0).trans x0.c0
            have hf1 := (below_atB (i := 1) hJ hlt0).trans x0.c1
            go_simp
            exact hK.out _ _ hJ (Below.refl _ _) (p1.up hJ)
          refine StepsFr.cons ?_ ?_
          · intro u w hJ hF K hK
            have h71 : u 71 = .bool false := facts_get hF 71 (by simp)
            have h74 : PInt (z1) 223 (u 74) w := facts_get hF 74 (by simp)
            clear hF
            simp only [h71] at hK ⊢
            clear h71
            go_simp
            refine (sign_is h74 (SX.out)).mono ?_
            rintro e w' ⟨rfl, hb⟩
            exact hK.out _ _ (below_then hJ hb hJ.size) hb (rfl)
          refine StepsFr.cons ?_ ?_
          · intro u w hJ hF K hK
            have h71 : u 71 = .bool false := facts_get hF 71 (by simp)
            have h73 : u 73 = .int .i64 (sx) := facts_get hF 73 (by simp)
            have h75 : u 75 = .int .i64 (sx) := facts_get hF 75 (by simp)
            clear hF
            simp only [h71, h73, h75] at hK ⊢
            clear h71 h73 h75
            go_simp
            exact hK.out _ _ hJ (Below.refl _ _) rfl
          refine StepsFr.cons ?_ ?_
          · intro u w hJ hF K hK
            have h67 : u 67 = .bool true := facts_get hF 67 (by simp)
            have h71 : u 71 = .bool false := facts_get hF 71 (by simp)
            have h76 : u 76 = .bool true := facts_get hF 76 (by simp)
            clear hF
            simp only [h67, h71, h76] at hK ⊢
            clear h67 h71 h76
            go_simp
            exact hK.out _ _ hJ (Below.refl _ _) rfl
          refine StepsFr.cons ?_ ?_
          · intro u w hJ hF K hK
            have h67 : u 67 = .bool true := facts_get hF 67 (by simp)
            have h77 : u 77 = .bool true := facts_get hF 77 (by simp)
            clear hF
            simp only [h67, h77] at hK ⊢
            clear h67 h77
            go_simp
            exact hK.out _ _ hJ (Below.refl _ _) rfl
          refine StepsFr.cons ?_ ?_
          · intro u w hJ hF K hK
            have h78 : u 78 = .bool true := facts_get hF 78 (by simp)
            clear hF
            simp only [h78] at hK ⊢
            clear h78
            go_simp
            exact hK.out _ _ hJ (Below.refl _ _) (rfl)
          exact StepsFr.nil
        · intro u w9 hJ9 hF
          have h4 : u 4 = .bool true := facts_get hF 4 (by simp [divFL2, temps])
          clear hF
          go_wp2
          go_ret
          exact ⟨by first | rfl | (show Ending.returned (u 4) = _; rw [h4]), HWW.out.trans (Below.less hJ9 HWW.out.size)⟩
end Go.Proofs.YtbfbijokhlkekaaDoor

/- 'append' of a whole row, nil or empty or not, to a row of the call's own. -/
namespace Go.Proofs.YtbfbijokhlkekaaDoor
open Go.RowKit

theorem Own.ofBlk {k : IntKind} {e : TypeId} {w : World} {base g : Nat} {L : List Nat} (h : Blk k e w g L) (hb : base ≤ g) (hl : L.length ≤ 1000000) : Own k e w base (.slice (some ⟨g, 0, none⟩) L.length L.length) L := by
  refine ⟨by simp, .inr ⟨g, L.length, _, rfl, hb, h, Nat.le_refl _, by unfold maxLen; omega, by simp, by simp only [Nat.mul_one]; exact List.take_of_length_le (by simp)⟩⟩
/-- Where an own row lies. -/
theorem Own.lies {k : IntKind} {e : TypeId} {w : World} {base : Nat} {v : Value} {L : List Nat} (h : Own k e w base v L) :
    ∃ A c, v = .slice A L.length c ∧ Row k w w.heap.size A c L ∧ (∀ b o, A = some ⟨b, o, none⟩ → base ≤ b) := by
  obtain ⟨A, c, rfl, hr⟩ := h.row
  refine ⟨A, c, rfl, hr, fun b o hA => ?_⟩
  subst hA
  rcases h.2 with ⟨h0, _⟩ | ⟨g, cap, cur, he, hbg, _⟩
  · cases h0
  · injection he with h1 h2 h3
    injection h1 with h1
    injection h1 with h1 h4 h5
    omega
theorem run_append_nil_any {P : Program} {w : World} (base : Nat) (t ty e : TypeId) (i : TypeInfo) (ht : P.underlying t = some (.slice e)) (hi : P.info? e = some i) {size : Nat}
    (v : Value) (n : Nat) (xs : List Value) (hown : w.ownsRow base e size v n xs) (c : Nat) : (Builtin.append_ #[t, t] ty #[v, .slice none 0 c]).run P w = .ok v w := by
  rcases hown.2 with ⟨rfl, rfl⟩ | ⟨g, cap, cur, rfl, _, _, hnc, _⟩
  · simp [Builtin.append_, run_underlying ht, sizeOf, typeInfo, hi, Builtin.lenOf, Builtin.firstCells]
  · simp [Builtin.append_, run_underlying ht, sizeOf, typeInfo, hi, Builtin.lenOf, Builtin.firstCells, hnc, storeCells]
theorem wpList_append_row {P : Program} {w : World} {ops : Array Oper} {rest : List Oper} {o : Oper} {a : Act} {Q : Exit → Act → World → Prop} (hgd : o.guard = none) (s x : Operand) (t : TypeId)
    (ho : o.op = .call { callee := .builtin .append, args := #[s, x], argTypes := #[t, t] })
    (k : IntKind) (base : Nat) (e : TypeId) (i : TypeInfo) (bytes : Nat) (ht : P.underlying t = some (.slice e)) (hi : P.info? e = some i) (hz : i.zero = some (.int k 0))
    (hsize : i.size = 1) (hby : i.bytes = bytes) (hb8 : bytes ≤ 8)
    (v : Value) (L : List Nat) (hs : a.eval s = v) (hown : Own k e w base v L) (A : Option Addr) (m c : Nat) (M : List Nat) (hm : M.length = m) (hx : a.eval x = .slice A m c) {B : Nat} (hR : Row k w B A c M)
    (hlen : L.length + m ≤ 100000000) (hbase : base ≤ w.heap.size)
    (h : ∀ v' w', Hid (Own k e w' base v' (L ++ M)) → Below base w w' → wpList P ops Q rest (a.put o.dst v') w') : wpList P ops Q (o :: rest) a w := by
  subst hm
  have hb := Nat.mul_le_mul_left (L.length + M.length) hb8
  rcases A with _ | ad
  · have h0 : M.length = 0 := by
      rcases Nat.eq_zero_or_pos M.length with h0 | h0
      · exact h0
      · obtain ⟨b, o', e1, _, _⟩ := hR.spot h0; cases e1
    have hM : M = [] := List.eq_nil_of_length_eq_zero h0
    subst hM
    refine wpList_plain hgd fun K hK => ?_
    have hrun := run_append_nil_any (P := P) (w := w) base t o.type e i ht hi v _ _ hown c
    unfold Oper.wp
    simp only [List.length_nil] at hx
    simp [execOp, ho, resolve, invoke, builtin, hs, hx, hrun, Result.andThen]
    exact hK _ _ (h v w (by rw [List.append_nil]; exact hown) (Below.refl _ _))
  · refine wpList_append_own w hgd s x t ho base e i (.int k 0) 1 bytes ht hi hz hsize hby rfl (by decide) v L.length _ hs hown ad M.length c (M.map fun (d : Nat) => Value.int k (d : Int)) hx (by simp) ?_ ?_ (by unfold maxLen; omega) (by omega) hbase ?_
    · intro j u hj
      have hjl : j < M.length := by
        rcases Nat.lt_or_ge j M.length with h1 | h1
        · exact h1
        · rw [List.getElem?_eq_none (by simpa using h1)] at hj; cases hj
      obtain ⟨b, o', e1, _, hc⟩ := hR.spot (by omega)
      injection e1 with e1
      subst e1
      have h2 := hc j hjl
      have h3 : u = .int k (nth M j) := by
        rw [List.getElem?_map, List.getElem?_eq_getElem hjl] at hj
        simp at hj
        rw [← hj, nth_lt hjl]
      rw [h3, ← h2]
      unfold Addr.add
      split
      · rename_i h0; subst h0; simp
      · rfl
    · intro u hu
      obtain ⟨d, _, rfl⟩ := List.mem_map.1 hu
      rfl
    · intro v' w' h1 h2 _
      refine h v' w' ?_ ((Below.refl base w).grown h2 hbase (fun j hj => (World.ownsRow.lt hown j hj).1))
      show World.ownsRow _ _ _ _ _ _ _
      rw [List.length_append, List.map_append]
      exact h1
end Go.Proofs.YtbfbijokhlkekaaDoor
