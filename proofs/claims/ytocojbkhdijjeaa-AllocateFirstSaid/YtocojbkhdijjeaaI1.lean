/- Contracts of the functions that the statements reach, part 1: what was proved of each, callees first. -/
import Derived.Test.YtocojbkhdijjeaaProg
import Derived.WalkKit
import Derived.WalkSpells
import Derived.Lib.Hide
import Derived.Deep.QuietTactic
import Derived.BigQuiet
import Derived.Deep.Draws
import Derived.Laws.Rows
import Derived.Laws.CopyOwn
import Derived.Deep.OwnRows
import Derived.Outline
import Derived.Laws.AppendOwnNone
import Derived.OwnWalk
import Derived.Sort.LotA
import Derived.Shelf.SlSortCmp.Kit1
import Derived.Sort.WalkB2
import Derived.Sort.WalkB12
import Derived.Deep.LoopGhost
import Derived.BigRegion
import Derived.Shelf.SlSortCmp.QuietGrown
import Derived.Deep.CutRange
import Derived.Shelf.Small.Wraps
import Derived.Shelf.Bits.Mul64
import Derived.Ground.SlsfProg
import Derived.Shelf.SlSortCmp.Insertion
import Derived.Shelf.SlSortCmp.Insertion1
import Derived.Maps.AppendAt
namespace Go.Proofs.Ytocojbkhdijjeaa
open Go.RowKit
def Blk (k : IntKind) (t : TypeId) (w : World) (g : Nat) (L : List Nat) : Prop := w.heap[g]? = some (.cells (L.map fun (d : Nat) => Value.int k (d : Int)).toArray t (0, 0))
section
variable {k : IntKind} {t : TypeId} {w w' : World} {b o g B : Nat} {L : List Nat}
end
section
variable {k : IntKind} {t : TypeId} {w w' : World} {g B B' c : Nat} {A : Option Addr} {L : List Nat}
end
theorem below_alloc_new {w : World} (o : Obj) : Below w.heap.size w (w.alloc o) := (Below.refl _ _).alloc (Nat.le_refl _) _
theorem wpList_make_zeros {P : Program} (w : World) {ops : Array Oper} {rest : List Oper} {o : Oper} {a : Act} {Q : Exit → Act → World → Prop}
  (hg : o.guard = none) (l c : Operand) (t : TypeId) (hop : o.op = Op.makeSlice t l c)
  (e : TypeId) (k : IntKind) (i : TypeInfo) (bytes : Nat) (ht : P.underlying t = some (.slice e)) (hi : P.info? e = some i) (hz : i.zero = some (.int k 0)) (hsize : i.size = 1) (hbt : i.bytes = bytes)
  (kl kc : IntKind) (N C : Int) (n : Nat) (hl : a.eval l = .int kl N) (hc : a.eval c = .int kc C) (hN : N = (n : Int)) (hC : C = (n : Int)) (hb8 : bytes ≤ 8) (hn : n ≤ 100000000)
  (hK : ∀ w', Hid (Blk k e w' w.heap.size (List.replicate n 0)) → Below w.heap.size w w' → w.heap.size + 1 = w'.heap.size → wpList P ops Q rest (a.put o.dst (.slice (some ⟨w.heap.size, 0, none⟩) n n)) w') :
  wpList P ops Q (o :: rest) a w := by
 subst hN
 subst hC
 refine wpList_make_row w hg l c t hop e i (.int k 0) ht hi hz hsize rfl kl kc n hl hc ?_ (by omega) ?_
 ·have : i.bytes * n ≤ 8 * n := Nat.mul_le_mul_right _ (by omega)
  omega
 refine hK _ ?_ (below_alloc_new _) (by simp)
 show _ = _
 rw [heap_alloc_new]
 have : madeCells #[Value.int k 0] n = ((List.replicate n 0).map fun (d : Nat) => Value.int k (d : Int)).toArray := by
  apply Array.ext
  ·simp [madeCells]
  ·intro j h1 h2
   simp [madeCells, Nat.mod_one]
 rw [this]
theorem quiet_one {P : Program} {f : FuncId} {args : Array Value} {w : World} {n : Nat} {v : Value}
  (h : ∀ W : World, Calls P f args W fun e w' => e = .returned v ∧ ∃ m, w' = W.drewN m) :
  Calls P f args (w.drewN n) fun e w'' => e = .returned v ∧ ∃ m, w'' = w.drewN m :=
 (h _).mono fun _ _ ⟨he, m, hm⟩ => ⟨he, n + m, by rw [hm, World.drewN_drewN]⟩
theorem same_quiet {P : Program} {f : FuncId} {args : Array Value} {v : Value} (h : ∀ W : World, Calls P f args W fun e w' => e = .returned v ∧ W = w') :
  ∀ W : World, Calls P f args W fun e w' => e = .returned v ∧ ∃ m, w' = W.drewN m := fun W => (h W).mono fun _ _ ⟨he, hw⟩ => ⟨he, 0, by rw [← hw]; rfl⟩
theorem below_drewN {B : Nat} {a w : World} (h : Below B a w) (n : Nat) : Below B a (w.drewN n) := ⟨h.os, h.tape, h.output, h.size, h.block⟩
theorem dc_drew {B : Nat} {a w : World} (h : Below B a w) : Below B a w.drew := ⟨h.os, h.tape, h.output, h.size, h.block⟩
theorem below_more {W w w' : World} (h : Below W.heap.size W w) (hb : Below w.heap.size w w') : Below W.heap.size W w' := h.trans (hb.mono h.size)
theorem dret_int {k : IntKind} {a b : Int} (h : a = b) : Ending.returned (.int k a) = .returned (.int k b) := by rw [h]
def amtB (n : Int) : Bool := decide (-1000000000000 ≤ n) && decide (n ≤ 1000000000000)
theorem amtB_is {n : Int} (h : amtB n = true) : -1000000000000 ≤ n ∧ n ≤ 1000000000000 := by simpa [amtB] using h
theorem amtB_no {n : Int} (h : n < -1000000000000 ∨ 1000000000000 < n) : amtB n = false := by
 unfold amtB
 rcases h with h | h
 ·rw [decide_eq_false (by omega)]; rfl
 ·rw [decide_eq_false (show ¬ n ≤ 1000000000000 by omega), Bool.and_false]
def hr (a b : Int) : Int := if a < 0 then -((2 * -a + b) / (2 * b)) else (2 * a + b) / (2 * b)
theorem hr_zero {b : Int} (hb : 0 < b) : hr 0 b = 0 := by
 unfold hr
 rw [if_neg (by omega), Int.mul_zero, Int.zero_add]
 exact Int.ediv_eq_zero_of_lt (by omega) (by omega)
theorem hr_pos {a b : Int} (ha : 0 ≤ a) : hr a b = (2 * a + b) / (2 * b) := by unfold hr; rw [if_neg (by omega)]
theorem hr_neg {a b : Int} (hb : 0 < b) : hr (-a) b = -hr a b := by
 by_cases h0 : a = 0
 ·subst h0; rw [Int.neg_zero, hr_zero hb]; rfl
 ·by_cases h : a < 0
  ·unfold hr; rw [if_neg (by omega), if_pos h, Int.neg_neg]
  ·unfold hr; rw [if_pos (by omega), if_neg h, Int.neg_neg]
theorem hr_near0 {a b : Int} (ha : 0 ≤ a) (hb : 0 < b) : -b < 2 * (hr a b * b - a) ∧ 2 * (hr a b * b - a) ≤ b ∧ 0 ≤ hr a b := by
 rw [hr_pos ha]
 have h1 : 2 * b * ((2 * a + b) / (2 * b)) + (2 * a + b) % (2 * b) = 2 * a + b := Int.mul_ediv_add_emod _ _
 have h2 : 0 ≤ (2 * a + b) % (2 * b) := Int.emod_nonneg _ (by omega)
 have h3 : (2 * a + b) % (2 * b) < 2 * b := Int.emod_lt_of_pos _ (by omega)
 have h4 : 0 ≤ (2 * a + b) / (2 * b) := Int.ediv_nonneg (by omega) (by omega)
 generalize (2 * a + b) / (2 * b) = q at *
 generalize (2 * a + b) % (2 * b) = r at *
 have e : 2 * b * q = 2 * (q * b) := by rw [Int.mul_assoc, Int.mul_comm b q]
 refine ⟨by omega, by omega, h4⟩
theorem hr_near {a b : Int} (hb : 0 < b) : -b ≤ 2 * (hr a b * b - a) ∧ 2 * (hr a b * b - a) ≤ b := by
 by_cases ha : 0 ≤ a
 ·have := hr_near0 ha hb; omega
 ·obtain ⟨c, rfl⟩ : ∃ c, a = -c := ⟨-a, by omega⟩
  have := hr_near0 (a := c) (by omega) hb
  rw [hr_neg hb, Int.neg_mul]
  omega
theorem hr_uniq {a b q : Int} (ha : 0 ≤ a) (hb : 0 < b) (h1 : -b < 2 * (q * b - a)) (h2 : 2 * (q * b - a) ≤ b) : hr a b = q := by
 have h := hr_near0 ha hb
 have h3 : (hr a b - q) * b < 1 * b := by rw [Int.sub_mul]; omega
 have h4 : (q - hr a b) * b < 1 * b := by rw [Int.sub_mul]; omega
 have h5 := Int.lt_of_mul_lt_mul_right h3 (by omega)
 have h6 := Int.lt_of_mul_lt_mul_right h4 (by omega)
 omega
theorem hr_mono {a c b : Int} (hb : 0 < b) (h : a ≤ c) : hr a b ≤ hr c b := by
 have key : ∀ a c : Int, 0 ≤ a → a ≤ c → hr a b ≤ hr c b := fun a c h0 h => by
  rw [hr_pos h0, hr_pos (by omega)]
  exact Int.ediv_le_ediv (by omega) (by omega)
 by_cases h0 : 0 ≤ a
 ·exact key a c h0 h
 ·by_cases h1 : 0 ≤ c
  ·have e1 := hr_near0 (a := -a) (b := b) (by omega) hb
   have e2 := hr_near0 h1 hb
   rw [hr_neg hb] at e1
   omega
  ·have := key (-c) (-a) (by omega) (by omega)
   rw [hr_neg hb, hr_neg hb] at this
   omega
theorem hr_add {k r b : Int} (hk : 0 ≤ k) (hr0 : 0 ≤ r) (hb : 0 < b) : hr (k * b + r) b = k + hr r b := by
 have h := hr_near0 hr0 hb
 have : 0 ≤ k * b := Int.mul_nonneg hk (by omega)
 refine hr_uniq (by omega) hb ?_ ?_ <;> rw [Int.add_mul] <;> omega
theorem hr_le {a b n : Int} (hb : 0 < b) (h1 : -n ≤ a) (h2 : a ≤ n) : -n ≤ hr a b ∧ hr a b ≤ n := by
 have key : ∀ a : Int, 0 ≤ a → hr a b ≤ a := fun a h0 => by
  rw [hr_pos h0]
  by_cases hz : a = 0
  ·subst hz; rw [Int.mul_zero, Int.zero_add]; exact Int.le_of_eq (Int.ediv_eq_zero_of_lt (by omega) (by omega))
  ·refine Int.le_of_lt_add_one (Int.ediv_lt_of_lt_mul (by omega) ?_)
   have e : a * 1 ≤ a * b := Int.mul_le_mul_of_nonneg_left (by omega) h0
   rw [Int.add_mul, show a * (2 * b) = 2 * (a * b) by rw [Int.mul_left_comm]]
   omega
 by_cases ha : 0 ≤ a
 ·have := hr_near0 ha hb; have := key a ha; omega
 ·have h3 := hr_near0 (a := -a) (b := b) (by omega) hb
  have h4 := key (-a) (by omega)
  rw [hr_neg hb] at h3 h4
  omega
theorem hr_split {n num den : Int} (hnum : 0 ≤ num) (hden : 0 < den) : hr (n * num) den = n * (num / den) + hr (n * (num % den)) den := by
 have h1 : den * (num / den) + num % den = num := Int.mul_ediv_add_emod _ _
 have h2 : 0 ≤ num % den := Int.emod_nonneg _ (by omega)
 have h4 : 0 ≤ num / den := Int.ediv_nonneg hnum (by omega)
 have key : ∀ n : Int, 0 ≤ n → hr (n * num) den = n * (num / den) + hr (n * (num % den)) den := fun n h0 => by
  rw [← hr_add (Int.mul_nonneg h0 h4) (Int.mul_nonneg h0 h2) hden]
  congr 1
  rw [Int.mul_assoc, Int.mul_comm (num / den), ← Int.mul_add, h1]
 by_cases h0 : 0 ≤ n
 ·exact key n h0
 ·obtain ⟨c, rfl⟩ : ∃ c, n = -c := ⟨-n, by omega⟩
  rw [Int.neg_mul, hr_neg hden, key c (by omega), Int.neg_mul, Int.neg_mul, hr_neg hden, Int.neg_add]
def amV (x : Int) : Int := if amtB x = true then x else 0
def amE (x : Int) : Int := if amtB x = true then 0 else 2
theorem hr_far {n num den M : Int} (hnum : 0 ≤ num) (hden : 0 < den) (_hM : 0 ≤ M) (hq : 0 < num / den) (h : M / (num / den) < (n.natAbs : Int)) : hr (n * num) den < -M ∨ M < hr (n * num) den := by
 have h2 : 0 ≤ num % den := Int.emod_nonneg _ (by omega)
 have key : ∀ n : Int, 0 ≤ n → M / (num / den) < n → M < hr (n * num) den := fun n h0 h => by
  rw [hr_split hnum hden]
  have h3 := (hr_near0 (Int.mul_nonneg h0 h2) hden).2.2
  have h4 : M < n * (num / den) := (Int.ediv_lt_iff_lt_mul hq).1 h
  omega
 by_cases h0 : 0 ≤ n
 ·right; exact key n h0 (by omega)
 ·left
  have := key (-n) (by omega) (by omega)
  rw [Int.neg_mul, hr_neg hden] at this
  omega
theorem whole_le {n q M : Int} (hM : 0 ≤ M) (hq : 0 < q) (h : ¬ M / q < (n.natAbs : Int)) : -M ≤ n * q ∧ n * q ≤ M := by
 have key : ∀ n : Int, 0 ≤ n → n ≤ M / q → n * q ≤ M := fun n h0 h => (Int.le_ediv_iff_mul_le hq).1 h
 by_cases h0 : 0 ≤ n
 ·have := key n h0 (by omega)
  have := Int.mul_nonneg h0 (show 0 ≤ q by omega)
  omega
 ·have h1 := key (-n) (by omega) (by omega)
  have h2 := Int.mul_nonneg (show 0 ≤ -n by omega) (show 0 ≤ q by omega)
  rw [Int.neg_mul] at h1 h2
  omega
theorem hr_tdiv {a b : Int} (hb : 0 < b) : hr a b = if b ≤ 2 * a.tmod b then a.tdiv b + 1 else if 2 * a.tmod b ≤ -b then a.tdiv b - 1 else a.tdiv b := by
 have key : ∀ a : Int, 0 ≤ a → hr a b = if b ≤ 2 * (a % b) then a / b + 1 else a / b := fun a h0 => by
  have h1 : b * (a / b) + a % b = a := Int.mul_ediv_add_emod a b
  have h2 : 0 ≤ a % b := Int.emod_nonneg _ (by omega)
  have h3 : a % b < b := Int.emod_lt_of_pos _ hb
  rw [Int.mul_comm] at h1
  by_cases h : b ≤ 2 * (a % b)
  ·rw [if_pos h]; refine hr_uniq h0 hb ?_ ?_ <;> rw [Int.add_mul] <;> omega
  ·rw [if_neg h]; refine hr_uniq h0 hb ?_ ?_ <;> omega
 by_cases h0 : 0 ≤ a
 ·have h2 : 0 ≤ a % b := Int.emod_nonneg _ (by omega)
  rw [Int.tdiv_eq_ediv_of_nonneg h0, Int.tmod_eq_emod_of_nonneg h0, key a h0]
  by_cases h : b ≤ 2 * (a % b)
  ·rw [if_pos h, if_pos h]
  ·rw [if_neg h, if_neg h, if_neg (by omega)]
 ·obtain ⟨c, rfl⟩ : ∃ c, a = -c := ⟨-a, by omega⟩
  have h2 : 0 ≤ c % b := Int.emod_nonneg _ (by omega)
  rw [Int.neg_tdiv, Int.neg_tmod, Int.tdiv_eq_ediv_of_nonneg (by omega), Int.tmod_eq_emod_of_nonneg (by omega), hr_neg hb, key c (by omega)]
  by_cases h : b ≤ 2 * (c % b)
  ·rw [if_pos h, if_neg (by omega), if_pos (by omega)]; omega
  ·rw [if_neg h, if_neg (by omega), if_neg (by omega)]
open Go.RowKit
theorem mvalid_any (n : Int) (w : World) : Calls Try.prog 26 #[.int .i64 n] w fun e w' => e = .returned (.bool (amtB n)) ∧ w = w' := by
 unfold amtB
 by_cases h1 : (-1000000000000 : Int) ≤ n
 ·by_cases h2 : n ≤ 1000000000000
  ·rw [decide_eq_true h1, decide_eq_true h2]
   go_enter Try.func26, Try.ntmps26
   go_wp2
   go_ret
   exact ⟨rfl, rfl⟩
  ·rw [decide_eq_true h1, decide_eq_false h2]
   have h3 : decide (n ≤ 1000000000000) = false := decide_eq_false h2
   clear h2
   go_enter Try.func26, Try.ntmps26
   go_wp2
   go_ret
   exact ⟨rfl, rfl⟩
 ·rw [decide_eq_false h1]
  have h3 : decide ((-1000000000000 : Int) ≤ n) = false := decide_eq_false h1
  clear h1
  go_enter Try.func26, Try.ntmps26
  go_wp2
  go_ret
  exact ⟨rfl, rfl⟩
theorem mabs_any (n : Int) (w : World) (h1 : -9223372036854775807 ≤ n) (h2 : n ≤ 9223372036854775807) : Calls Try.prog 38 #[.int .i64 n] w fun e w' => e = .returned (.int .i64 (n.natAbs : Int)) ∧ w = w' := by
 have hm : max n (-n) = (n.natAbs : Int) := by omega
 go_enter Try.func38, Try.ntmps38
 go_wp2
 all_goals
  go_ret
  first
   | exact ⟨rfl, rfl⟩
   | exact ⟨dret_int (by omega), rfl⟩
theorem amount_any (n : Int) (w : World) : Calls Try.prog 39 #[.int .i64 n] w fun e w' => e = .returned (.tuple #[.int .i64 (amV n), .int .i64 (amE n)]) ∧ w = w' := by
 unfold amV amE
 cases h : amtB n
 all_goals
  have HV := fun w => mvalid_any n w
  rw [h] at HV
  have H := Lib.hid HV
  clear HV
  go_enter Try.func39, Try.ntmps39
  go_wp2_with (go_at_call 26; refine (H.out _).mono ?_; rintro e w' ⟨rfl, rfl⟩)
  go_ret2
  exact ⟨rfl, rfl⟩
theorem mrounded_any (a b : Int) (w : World) (ha : -1000000000000000000 ≤ a ∧ a ≤ 1000000000000000000) (hb : 1 ≤ b ∧ b ≤ 1000000) : Calls Try.prog 40 #[.int .i64 a, .int .i64 b] w fun e w' => e = .returned (.int .i64 (hr a b)) ∧ Below w.heap.size w w' := by
 rw [hr_tdiv (by omega)]
 have m1 : a.tmod b < b := Int.tmod_lt_of_pos _ (by omega)
 have m2 : -b < a.tmod b := by have := Int.lt_tmod_of_pos a (show 0 < b by omega); omega
 have q1 : -1000000000000000000 ≤ a.tdiv b ∧ a.tdiv b ≤ 1000000000000000000 := by
  have h := Int.natAbs_tdiv_le_natAbs a b
  omega
 obtain ⟨q2, q3⟩ := q1
 obtain ⟨hb1, hb2⟩ := hb
 obtain ⟨ha1, ha2⟩ := ha
 have hb0 : ¬ b = 0 := by omega
 obtain ⟨q, hq⟩ : ∃ q, a.tdiv b = q := ⟨_, rfl⟩
 obtain ⟨r, hmd⟩ : ∃ r, a.tmod b = r := ⟨_, rfl⟩
 have hdv : IntKind.i64.wrap (a.tdiv b) = q := by rw [IntKind.wrap_i64]; omega
 rw [hq, hmd]
 rw [hq] at q2 q3
 rw [hmd] at m1 m2
 clear hq
 by_cases h1 : b ≤ 2 * r
 ·rw [if_pos h1]
  go_enter Try.func40, Try.ntmps40
  go_wp2
  go_quiet (fail)
  go_wp2
  go_ret
  exact ⟨rfl, below_drewN (Below.refl _ _) _⟩
 ·rw [if_neg h1]
  have h1' : decide (b ≤ 2 * r) = false := decide_eq_false h1
  by_cases h2 : 2 * r ≤ -b
  ·rw [if_pos h2]
   go_enter Try.func40, Try.ntmps40
   go_wp2
   go_quiet (fail)
   go_wp2
   go_ret
   exact ⟨rfl, below_drewN (Below.refl _ _) _⟩
  ·rw [if_neg h2]
   have h2' : decide (2 * r ≤ -b) = false := decide_eq_false h2
   go_enter Try.func40, Try.ntmps40
   go_wp2
   go_quiet (fail)
   go_wp2
   go_ret
   exact ⟨rfl, below_drewN (Below.refl _ _) _⟩
theorem mult_in {n num den : Int} (hn : amtB n = true) (h0 : 0 ≤ num ∧ num ≤ 1000000000000) (hd : 1 ≤ den ∧ den ≤ 1000000) :
  ∃ q r nr R : Int, num / den = q ∧ num % den = r ∧ n * r = nr ∧ hr nr den = R ∧ hr (n * num) den = n * q + R ∧ (0 ≤ q ∧ q ≤ 1000000000000) ∧ (0 ≤ r ∧ r < den) ∧ (-1000000000000000000 ≤ nr ∧ nr ≤ 1000000000000000000) ∧ (-1000000000000000000 ≤ R ∧ R ≤ 1000000000000000000) := by
 obtain ⟨n1, n2⟩ := amtB_is hn
 have r1 : 0 ≤ num % den := Int.emod_nonneg _ (by omega)
 have r2 : num % den < den := Int.emod_lt_of_pos _ (by omega)
 have q1 : 0 ≤ num / den := Int.ediv_nonneg h0.1 (by omega)
 have q2 : num / den ≤ num := Int.ediv_le_self _ h0.1
 have b1 : -1000000000000000000 ≤ n * (num % den) ∧ n * (num % den) ≤ 1000000000000000000 := by
  have k1 : 1000000000000 * (num % den) ≤ 1000000000000 * 1000000 := Int.mul_le_mul_of_nonneg_left (by omega) (by omega)
  have k2 : n * (num % den) ≤ 1000000000000 * (num % den) := Int.mul_le_mul_of_nonneg_right n2 r1
  have k3 : -1000000000000 * (num % den) ≤ n * (num % den) := Int.mul_le_mul_of_nonneg_right n1 r1
  rw [Int.neg_mul] at k3
  omega
 exact ⟨_, _, _, _, rfl, rfl, rfl, rfl, hr_split h0.1 (by omega), ⟨q1, by omega⟩, ⟨r1, r2⟩, b1, hr_le (by omega) b1.1 b1.2⟩
theorem multiple_any (n num den : Int) (w : World) (hn : amtB n = true) (h0 : 0 ≤ num ∧ num ≤ 1000000000000) (hd : 1 ≤ den ∧ den ≤ 1000000) :
  Calls Try.prog 27 #[.int .i64 n, .int .i64 num, .int .i64 den] w fun e w' => e = .returned (.tuple #[.int .i64 (amV (hr (n * num) den)), .int .i64 (amE (hr (n * num) den))]) ∧ Below w.heap.size w w' := by
 obtain ⟨q, r, nr, R, e1, e2, e3, e4, e5, ⟨a1, a2⟩, ⟨a3, a4⟩, ⟨a5, a6⟩, a7, a8⟩ := mult_in hn h0 hd
 obtain ⟨n1, n2⟩ := amtB_is hn
 obtain ⟨d1, d2⟩ := hd
 obtain ⟨c1, c2⟩ := h0
 have hb0 : ¬ den = 0 := by omega
 have hdv : IntKind.i64.wrap (num.tdiv den) = q := by rw [Int.tdiv_eq_ediv_of_nonneg (by omega), IntKind.wrap_i64]; omega
 have hmd : num.tmod den = r := by rw [Int.tmod_eq_emod_of_nonneg (by omega)]; exact e2
 have hA := fun w => mabs_any n w (by omega) (by omega)
 obtain ⟨z, hz⟩ : ∃ z, (n.natAbs : Int) = z := ⟨_, rfl⟩
 have hfar := fun h1 => hr_far (n := n) (M := 1000000000000) c1 (show 0 < den by omega) (by omega) h1
 have hle := whole_le (n := n) (q := q) (M := 1000000000000) (by omega)
 rw [e1, hz] at hfar
 rw [hz] at hle hA
 have HA := Lib.hid hA
 clear hA hz
 by_cases hq : 0 < q
 ·have hq0 : ¬ q = 0 := by omega
  obtain ⟨m, hm⟩ : ∃ m, 1000000000000 / q = m := ⟨_, rfl⟩
  have m1 : 0 ≤ m := by rw [← hm]; exact Int.ediv_nonneg (by omega) (by omega)
  have m2 : m ≤ 1000000000000 := by rw [← hm]; exact Int.ediv_le_self _ (by omega)
  have hdm : IntKind.i64.wrap ((1000000000000 : Int).tdiv q) = m := by rw [Int.tdiv_eq_ediv_of_nonneg (by omega), IntKind.wrap_i64]; omega
  rw [hm] at hfar hle
  by_cases hf : m < z
  ·have hno : amtB (hr (n * num) den) = false := amtB_no (hfar hq hf)
   unfold amV amE
   rw [hno]
   clear e5 hfar hle hm
   go_enter Try.func27, Try.ntmps27
   go_wp2_with fail
   go_quiet (fail)
   have hB := below_drewN (Below.refl w.heap.size w) nq
   generalize w.drewN nq = W1 at *
   go_wp2_with fail
   go_quiet ((go_at_call 38; exact quiet_one (same_quiet HA.out)))
   replace hB := below_drewN hB nq
   generalize W1.drewN nq = W2 at *
   go_wp2_with fail
   go_ret2
   exact ⟨rfl, hB⟩
  ·have hf' : decide (m < z) = false := decide_eq_false hf
   obtain ⟨p1, p2⟩ := hle hq hf
   have hR := fun w => mrounded_any nr den w ⟨a5, a6⟩ ⟨d1, d2⟩
   rw [e4] at hR
   have hM := fun w => amount_any (n * q + R) w
   rw [← e5] at hM
   obtain ⟨V, hV⟩ : ∃ V, hr (n * num) den = V := ⟨_, rfl⟩
   obtain ⟨Q, hQ⟩ : ∃ Q, n * q = Q := ⟨_, rfl⟩
   rw [hV, hQ] at e5
   rw [hV] at hM ⊢
   rw [hQ] at p1 p2
   have hE : Q + R = V := e5.symm
   have HM := Lib.hid hM
   have HR := Lib.hid hR
   clear hM hR e5 hfar hle hm hV e1 e2 e4 hf
   go_enter Try.func27, Try.ntmps27
   go_wp2_with fail
   go_quiet (fail)
   have hB := below_drewN (Below.refl w.heap.size w) nq
   generalize w.drewN nq = W1 at *
   go_wp2_with fail
   go_quiet ((go_at_call 38; exact quiet_one (same_quiet HA.out)))
   replace hB := below_drewN hB nq
   generalize W1.drewN nq = W2 at *
   go_wp2_with (first | (go_at_call 40; refine (HR.out _).mono ?_; rintro e w' ⟨rfl, hb⟩; replace hB := below_more hB hb; clear hb) | (go_at_call 39; refine (HM.out _).mono ?_; rintro e w' ⟨rfl, rfl⟩))
   go_ret2
   exact ⟨rfl, hB⟩
 ·obtain rfl : q = 0 := by omega
  rw [Int.mul_zero, Int.zero_add] at e5
  have hR := fun w => mrounded_any nr den w ⟨a5, a6⟩ ⟨d1, d2⟩
  rw [e4] at hR
  have hM := fun w => amount_any R w
  rw [e5]
  have HM := Lib.hid hM
  have HR := Lib.hid hR
  clear hM hR e5 hfar hle e1 e2 e4 hq HA
  go_enter Try.func27, Try.ntmps27
  go_wp2_with fail
  go_quiet (fail)
  have hB := below_drewN (Below.refl w.heap.size w) nq
  generalize w.drewN nq = W1 at *
  go_wp2_with fail
  go_quiet (fail)
  replace hB := below_drewN hB nq
  generalize W1.drewN nq = W2 at *
  go_wp2_with (first | (go_at_call 40; refine (HR.out _).mono ?_; rintro e w' ⟨rfl, hb⟩; replace hB := below_more hB hb; clear hb) | (go_at_call 39; refine (HM.out _).mono ?_; rintro e w' ⟨rfl, rfl⟩))
  go_ret2
  exact ⟨rfl, hB⟩
def numB (num : Int) : Bool := decide (0 ≤ num) && decide (num ≤ 1000000000000)
def denB (den : Int) : Bool := decide (1 ≤ den) && decide (den ≤ 1000000)
def portB (n num den : Int) : Bool := amtB n && (numB num && denB den)
def portE (n num den : Int) : Int := if portB n num den = true then amE (hr (n * num) den) else 1
def portV (n num den : Int) : Int := if portB n num den = true then amV (hr (n * num) den) else 0
theorem denB_is {m : Int} (h : denB m = true) : 1 ≤ m ∧ m ≤ 1000000 := by simpa [denB] using h
theorem portion_any (n num den : Int) (w : World) : Calls Try.prog 15 #[.int .i64 n, .int .i64 num, .int .i64 den] w fun e w' => e = .returned (.tuple #[.int .i64 (portV n num den), .int .i64 (portE n num den)]) ∧ Below w.heap.size w w' := by
 have hB := Below.refl w.heap.size w
 have hV := fun w => mvalid_any n w
 unfold portV portE portB
 cases h0 : amtB n
 ·rw [h0] at hV
  have HV := Lib.hid hV
  clear hV
  go_enter Try.func15, Try.ntmps15
  go_wp2_with (go_at_call 26; refine (HV.out _).mono ?_; rintro e w' ⟨rfl, rfl⟩)
  go_ret2
  exact ⟨rfl, hB⟩
 ·rw [h0] at hV
  have HV := Lib.hid hV
  clear hV
  unfold numB
  by_cases h1 : num < 0
  ·rw [decide_eq_false (show ¬ 0 ≤ num by omega)]
   go_enter Try.func15, Try.ntmps15
   go_wp2_with (go_at_call 26; refine (HV.out _).mono ?_; rintro e w' ⟨rfl, rfl⟩)
   go_ret2
   exact ⟨rfl, hB⟩
  ·have h1' : decide (num < 0) = false := decide_eq_false h1
   rw [decide_eq_true (show 0 ≤ num by omega)]
   by_cases h2 : 1000000000000 < num
   ·rw [decide_eq_false (show ¬ num ≤ 1000000000000 by omega)]
    clear h1
    go_enter Try.func15, Try.ntmps15
    go_wp2_with (go_at_call 26; refine (HV.out _).mono ?_; rintro e w' ⟨rfl, rfl⟩)
    go_ret2
    exact ⟨rfl, hB⟩
   ·have h2' : decide (1000000000000 < num) = false := decide_eq_false h2
    rw [decide_eq_true (show num ≤ 1000000000000 by omega)]
    unfold denB
    by_cases h3 : den < 1
    ·rw [decide_eq_false (show ¬ 1 ≤ den by omega)]
     clear h1 h2
     go_enter Try.func15, Try.ntmps15
     go_wp2_with (go_at_call 26; refine (HV.out _).mono ?_; rintro e w' ⟨rfl, rfl⟩)
     go_ret2
     exact ⟨rfl, hB⟩
    ·have h3' : decide (den < 1) = false := decide_eq_false h3
     rw [decide_eq_true (show 1 ≤ den by omega)]
     by_cases h4 : 1000000 < den
     ·rw [decide_eq_false (show ¬ den ≤ 1000000 by omega)]
      clear h1 h2 h3
      go_enter Try.func15, Try.ntmps15
      go_wp2_with (go_at_call 26; refine (HV.out _).mono ?_; rintro e w' ⟨rfl, rfl⟩)
      go_ret2
      exact ⟨rfl, hB⟩
     ·have h4' : decide (1000000 < den) = false := decide_eq_false h4
      rw [decide_eq_true (show den ≤ 1000000 by omega)]
      have hM := fun w => multiple_any n num den w h0 ⟨by omega, by omega⟩ ⟨by omega, by omega⟩
      generalize hr (n * num) den = V at *
      have HM := Lib.hid hM
      clear hM h1 h2 h3 h4
      go_enter Try.func15, Try.ntmps15
      go_wp2_with (first | (go_at_call 26; refine (HV.out _).mono ?_; rintro e w' ⟨rfl, rfl⟩) | (go_at_call 27; refine (HM.out _).mono ?_; rintro e w' ⟨rfl, hb⟩; replace hB := below_more hB hb; clear hb))
      go_ret2
      exact ⟨rfl, hB⟩
def IntsAt (k : IntKind) (w : World) (A : Option Addr) (zs : List Int) : Prop := 0 < zs.length → ∃ b off, A = some ⟨b, off, none⟩ ∧ b < w.heap.size ∧ ∀ i, i < zs.length → w.cell? ⟨b, off + i, none⟩ = some (.int k (zs.getD i 0))
section
variable {k : IntKind} {e : TypeId} {w w' : World} {base B : Nat} {v : Value} {A : Option Addr} {L M zs : List Int}
theorem IntsAt.keep (h : IntsAt k w A zs) (hs : w.heap.size ≤ w'.heap.size) (hk : ∀ b j, b < w.heap.size → w'.cell? ⟨b, j, none⟩ = w.cell? ⟨b, j, none⟩) : IntsAt k w' A zs := fun h0 => by
 obtain ⟨b, off, e, hlt, hc⟩ := h h0
 exact ⟨b, off, e, Nat.lt_of_lt_of_le hlt hs, fun i hi => (hk b (off + i) hlt).trans (hc i hi)⟩
theorem IntsAt.up (h : IntsAt k w A zs) (hb : Below w.heap.size w w') : IntsAt k w' A zs := h.keep hb.size fun b j hB => hb.cell (p := ⟨b, j, none⟩) hB
theorem IntsAt.nil : IntsAt k w A [] := fun h => absurd h (by simp)
end
theorem infoI_int : (Try.prog.info? 3).map (fun i => (i.zero, i.size, i.bytes)) = some (some (.int .i64 0), 1, 8) := by kernel_rfl
open Go.RowKit
def sumE (zs : List Int) : Int := if zs.all amtB = true then amE zs.sum else 1
def sumV (zs : List Int) : Int := if zs.all amtB = true then amV zs.sum else 0
theorem take_sum (zs : List Int) (k : Nat) (h : k < zs.length) : (zs.take (k + 1)).sum = (zs.take k).sum + zs.getD k 0 := by
 rw [List.take_succ_eq_append_getElem h, List.sum_append, List.getD_eq_getElem?_getD, List.getElem?_eq_getElem h]
 simp
theorem take_all (zs : List Int) (k : Nat) (h : k < zs.length) : (zs.take (k + 1)).all amtB = ((zs.take k).all amtB && amtB (zs.getD k 0)) := by
 rw [List.take_succ_eq_append_getElem h, List.all_append, List.getD_eq_getElem?_getD, List.getElem?_eq_getElem h]
 simp
theorem all_no {zs : List Int} {k : Nat} (h : k < zs.length) (hk : amtB (zs.getD k 0) = false) : zs.all amtB = false := by
 rw [List.all_eq_false]
 refine ⟨zs[k], List.getElem_mem h, ?_⟩
 rw [List.getD_eq_getElem?_getD, List.getElem?_eq_getElem h] at hk
 simpa using hk
structure MS (zs : List Int) (k : Nat) (M R : Int) : Prop where
 ok : (zs.take k).all amtB = true
 sum : M * 1000000 + R = (zs.take k).sum
 m1 : -((k : Int) * 1000000) ≤ M
 m2 : M ≤ (k : Int) * 1000000
 r1 : -((k : Int) * 1000000) ≤ R
 r2 : R ≤ (k : Int) * 1000000
theorem MS.next {zs : List Int} {k : Nat} {M R x q r : Int} (h : MS zs k M R) (hk : k < zs.length) (hx : zs.getD k 0 = x) (hok : amtB x = true) (hq : x.tdiv 1000000 = q) (hr' : x.tmod 1000000 = r) : MS zs (k + 1) (M + q) (R + r) ∧ (-1000000 ≤ q ∧ q ≤ 1000000) ∧ (-1000000 ≤ r ∧ r ≤ 1000000) := by
 obtain ⟨a1, a2, a3, a4, a5, a6⟩ := h
 obtain ⟨x1, x2⟩ := amtB_is hok
 have e : 1000000 * x.tdiv 1000000 + x.tmod 1000000 = x := Int.mul_tdiv_add_tmod x 1000000
 have b1 : x.tmod 1000000 < 1000000 := Int.tmod_lt_of_pos _ (by omega)
 have b2 : -1000000 < x.tmod 1000000 := by have := Int.lt_tmod_of_pos x (show (0 : Int) < 1000000 by omega); omega
 rw [hq, hr'] at e
 rw [hr'] at b1 b2
 refine ⟨⟨?_, ?_, by omega, by omega, by omega, by omega⟩, ⟨by omega, by omega⟩, by omega, by omega⟩
 ·rw [take_all zs k hk, a1, hx, hok]; rfl
 ·rw [take_sum zs k hk, hx, ← a2]; omega
theorem sum_end {S M R q r : Int} (h : M * 1000000 + R = S) (hq : R.tdiv 1000000 = q) (hr' : R.tmod 1000000 = r) : (M + q) * 1000000 + r = S ∧ -1000000 < r ∧ r < 1000000 := by
 have e : 1000000 * R.tdiv 1000000 + R.tmod 1000000 = R := Int.mul_tdiv_add_tmod R 1000000
 have b1 : R.tmod 1000000 < 1000000 := Int.tmod_lt_of_pos _ (by omega)
 have b2 : -1000000 < R.tmod 1000000 := by have := Int.lt_tmod_of_pos R (show (0 : Int) < 1000000 by omega); omega
 rw [hq, hr'] at e
 rw [hr'] at b1 b2
 omega
set_option maxRecDepth 20000 in
set_option maxHeartbeats 3200000 in
theorem msum_any (A : Option Addr) (c : Nat) (zs : List Int) (w : World) (hz : IntsAt .i64 w A zs) (hl : zs.length ≤ 1000) :
  Calls Try.prog 43 #[.slice A zs.length c] w fun e w' => e = .returned (.tuple #[.int .i64 (sumV zs), .int .i64 (sumE zs)]) ∧ Below w.heap.size w w' := by
 obtain ⟨len, hlen⟩ : ∃ len, zs.length = len := ⟨_, rfl⟩
 have HZ := Lib.hid hz
 clear hz
 rw [hlen] at hl ⊢
 have HL := Lib.hid hlen
 clear hlen
 go_enter Try.func43, Try.ntmps43
 go_wp2_with fail
 go_loop [4, 5, 10] (fun m r i => ∃ (k : Nat) (M R : Int), k ≤ len ∧ m = .int .i64 M ∧ r = .int .i64 R ∧ i = .int .i64 k ∧ MS zs k M R) (fun _ _ i => len - (intOf i).toNat)
 case atStart => exact ⟨0, 0, 0, by omega, rfl, rfl, rfl, by simp, by simp, by simp, by simp, by simp, by simp⟩
 case round =>
  obtain ⟨k, M, R, hk, rfl, rfl, rfl, hms⟩ := hrel
  have b1 : -1000000000 ≤ M := by have := hms.m1; omega
  have b2 : M ≤ 1000000000 := by have := hms.m2; omega
  have b3 : -1000000000 ≤ R := by have := hms.r1; omega
  have b4 : R ≤ 1000000000 := by have := hms.r2; omega
  have HM := Lib.hid hms
  clear hms
  by_cases hlt : k < len
  ·obtain ⟨b, off, rfl, hbw, hcs⟩ := HZ.out (by rw [HL.out]; omega)
   have hc := hcs k (by rw [HL.out]; exact hlt)
   have hV := fun w => mvalid_any (zs.getD k 0) w
   obtain ⟨x, hx⟩ : ∃ x, zs.getD k 0 = x := ⟨_, rfl⟩
   rw [hx] at hc hV
   have HX := Lib.hid hx
   clear hx hcs
   cases hok : amtB x
   ·rw [hok] at hV
    have HV := Lib.hid hV
    have HE : Hid (zs.all amtB = false) := Lib.hid (all_no (by rw [HL.out]; exact hlt) (by rw [HX.out]; exact hok))
    clear hV hok
    go_wp2_with (go_at_call 26; refine (HV.out _).mono ?_; rintro e w' ⟨rfl, rfl⟩)
    go_ret2
    exact ⟨by unfold sumV sumE; rw [HE.out]; rfl, Below.refl _ _⟩
   ·rw [hok] at hV
    have HV := Lib.hid hV
    obtain ⟨q, hq⟩ : ∃ q, x.tdiv 1000000 = q := ⟨_, rfl⟩
    obtain ⟨r, hr'⟩ : ∃ r, x.tmod 1000000 = r := ⟨_, rfl⟩
    obtain ⟨hn, ⟨q1, q2⟩, r1, r2⟩ := HM.out.next (by rw [HL.out]; exact hlt) HX.out hok hq hr'
    have hdv : IntKind.i64.wrap (x.tdiv 1000000) = q := by rw [hq, IntKind.wrap_i64]; omega
    have HN := Lib.hid hn
    clear hV hok hn hq
    go_wp2_with (go_at_call 26; refine (HV.out _).mono ?_; rintro e w' ⟨rfl, rfl⟩)
    go_round
    case rel => exact ⟨k + 1, M + q, R + r, by omega, rfl, rfl, by go_num, HN.out⟩
    case measure => simp [intOf]; omega
  ·obtain rfl : k = len := by omega
   obtain ⟨q, hq⟩ : ∃ q, R.tdiv 1000000 = q := ⟨_, rfl⟩
   obtain ⟨r, hr'⟩ : ∃ r, R.tmod 1000000 = r := ⟨_, rfl⟩
   have hall : zs.all amtB = true := by have := HM.out.ok; rwa [List.take_of_length_le (by rw [HL.out]; exact Nat.le_refl _)] at this
   have hsum : M * 1000000 + R = zs.sum := by have := HM.out.sum; rwa [List.take_of_length_le (by rw [HL.out]; exact Nat.le_refl _)] at this
   obtain ⟨he, r1, r2⟩ := sum_end hsum hq hr'
   have q1 : -1000000000 ≤ q := by omega
   have q2 : q ≤ 1000000000 := by omega
   have hdv : IntKind.i64.wrap (R.tdiv 1000000) = q := by rw [hq, IntKind.wrap_i64]; omega
   have hA := fun w => mabs_any (M + q) w (by omega) (by omega)
   obtain ⟨z, hz⟩ : ∃ z, ((M + q).natAbs : Int) = z := ⟨_, rfl⟩
   obtain ⟨S, hS⟩ : ∃ S, zs.sum = S := ⟨_, rfl⟩
   rw [hz] at hA
   rw [hS] at he
   have hM := fun w => amount_any S w
   have eV : sumV zs = amV S := by unfold sumV; rw [if_pos hall, hS]
   have eE : sumE zs = amE S := by unfold sumE; rw [if_pos hall, hS]
   have hkk : decide ((k : Int) < (k : Int)) = false := by simp
   have HA := Lib.hid hA
   by_cases hf : 1000000 < z
   ·have hno : amtB S = false := amtB_no (by omega)
    have fV : sumV zs = 0 := by rw [eV]; unfold amV; rw [hno]; rfl
    have fE : sumE zs = 2 := by rw [eE]; unfold amE; rw [hno]; rfl
    have HFV := Lib.hid fV
    have HFE := Lib.hid fE
    clear hA hM eV eE fV fE hno he hS hz hsum hq hall hk hlt
    go_wp2_with (go_at_call 38; refine (HA.out _).mono ?_; rintro e w' ⟨rfl, rfl⟩)
    go_ret2
    exact ⟨by rw [HFV.out, HFE.out]; rfl, Below.refl _ _⟩
   ·have hf' : decide (1000000 < z) = false := decide_eq_false hf
    have HFV := Lib.hid eV
    have HFE := Lib.hid eE
    obtain ⟨N, hN⟩ : ∃ N, M + q = N := ⟨_, rfl⟩
    rw [hN] at he HA hz
    have n1 : -1000000 ≤ N := by omega
    have n2 : N ≤ 1000000 := by omega
    have HM2 := Lib.hid hM
    clear hA hM eV eE hS hz hsum hq hall hk hlt hf
    go_wp2_with (first | (go_at_call 38; refine (HA.out _).mono ?_; rintro e w' ⟨rfl, rfl⟩) | (go_at_call 39; refine (HM2.out _).mono ?_; rintro e w' ⟨rfl, rfl⟩))
    go_ret2
    exact ⟨by rw [HFV.out, HFE.out]; rfl, Below.refl _ _⟩
def addE (a b : Int) : Int := if (amtB a && amtB b) = true then amE (a + b) else 1
def addV (a b : Int) : Int := if (amtB a && amtB b) = true then amV (a + b) else 0
theorem sum_two (a b : Int) : sumE [a, b] = addE a b ∧ sumV [a, b] = addV a b := by
 unfold sumE sumV addE addV
 simp
theorem ints_two (w : World) (a b : Int) : IntsAt .i64 (w.alloc (.cells #[.int .i64 a, .int .i64 b] 3)) (some ⟨w.heap.size, 0, none⟩) [a, b] := fun _ => by
 refine ⟨w.heap.size, 0, rfl, by simp, fun i hi => ?_⟩
 match i, hi with
 | 0, _ => simp
 | 1, _ => simp
theorem madd_any (a b : Int) (w : World) : Calls Try.prog 35 #[.int .i64 a, .int .i64 b] w fun e w' => e = .returned (.tuple #[.int .i64 (addV a b), .int .i64 (addE a b)]) ∧ Below w.heap.size w w' := by
 have hS := msum_any (some ⟨w.heap.size, 0, none⟩) 2 [a, b] _ (ints_two w a b) (by simp)
 rw [(sum_two a b).1, (sum_two a b).2] at hS
 have HS := Lib.hid hS
 have hB : Below w.heap.size w (w.alloc (.cells #[.int .i64 a, .int .i64 b] 3)) := (Below.refl _ _).alloc (Nat.le_refl _) _
 clear hS
 go_enter Try.func35, Try.ntmps35
 go_wp2_with (go_at_call 43; refine (HS.out).mono ?_; rintro e w' ⟨rfl, hb⟩; replace hB := below_more hB hb; clear hb)
 go_ret2
 exact ⟨rfl, hB⟩
open Go.Sort
section
variable {α : Type} {lt : α → α → Bool} {idx : α → Nat}
def tl (lt : α → α → Bool) (idx : α → Nat) (x y : α) : Bool := lt x y || (!lt y x && decide (idx x < idx y))
theorem tl_true {x y : α} : tl lt idx x y = true ↔ lt x y = true ∨ (lt y x = false ∧ idx x < idx y) := by simp [tl]
theorem tl_false {x y : α} : tl lt idx x y = false ↔ lt x y = false ∧ (lt y x = true ∨ idx y ≤ idx x) := by
 rw [← Bool.not_eq_true, tl_true]
 cases lt x y <;> cases lt y x <;> simp
theorem tl_swo (h : SWO lt) : SWO (tl lt idx) where
 irrefl x := by rw [tl_false]; exact ⟨h.irrefl x, .inr (Nat.le_refl _)⟩
 trans x y z h1 h2 := by
  rw [tl_true] at *
  have key : ∀ a b c : α, lt a b = true → lt c b = false → lt a c = true := fun a b c hab hcb => by
   cases hac : lt a c with
   | true => rfl
   | false => rw [h.ntrans a c b hac hcb] at hab; cases hab
  have key2 : ∀ a b c : α, lt b a = false → lt b c = true → lt a c = true := fun a b c hba hbc => by
   cases hac : lt a c with
   | true => rfl
   | false => rw [h.ntrans b a c hba hac] at hbc; cases hbc
  rcases h1 with h1 | ⟨h1, h1'⟩ <;> rcases h2 with h2 | ⟨h2, h2'⟩
  ·exact .inl (h.trans x y z h1 h2)
  ·exact .inl (key x y z h1 h2)
  ·exact .inl (key2 x y z h1 h2)
  ·exact .inr ⟨h.ntrans z y x h2 h1, by omega⟩
 ntrans x y z h1 h2 := by
  rw [tl_false] at *
  refine ⟨h.ntrans x y z h1.1 h2.1, ?_⟩
  cases hzx : lt z x with
  | true => exact .inl rfl
  | false =>
   right
   have a1 : lt y x = false := by
    cases hyx : lt y x with
    | false => rfl
    | true =>
     have := h.ntrans z x y hzx h1.1
     rcases h2.2 with h3 | h3
     ·rw [h3] at this; cases this
     ·have := h.ntrans y z x h2.1 hzx; rw [hyx] at this; cases this
   have a2 : lt z y = false := h.ntrans z x y hzx h1.1
   rw [a1] at h1; rw [a2] at h2
   have b1 := h1.2.resolve_left (by simp)
   have b2 := h2.2.resolve_left (by simp)
   omega
theorem tl_of {x y : α} (h : idx x < idx y) : tl lt idx y x = lt y x := by
 unfold tl
 rw [decide_eq_false (by omega), Bool.and_false, Bool.or_false]
end
section
variable {α : Type} [Inhabited α] {lt : α → α → Bool} {idx : α → Nat}
theorem insInner_size (a : Nat) : ∀ (j : Nat) (d : Array α), (insInner lt a j d).size = d.size
 | 0, d => by unfold insInner; rfl
 | j + 1, d => by
  unfold insInner
  split
  ·rw [insInner_size a j, size_swp]
  ·rfl
theorem insInner_all (a : Nat) (p : α → Prop) : ∀ (j : Nat) (d : Array α), j < d.size → (∀ q, a ≤ q → q ≤ j → p d[q]!) → (∀ q, a ≤ q → q ≤ j → p (insInner lt a j d)[q]!) ∧ ∀ q, j < q → (insInner lt a j d)[q]! = d[q]!
 | 0, d, _, h => by unfold insInner; exact ⟨h, fun _ _ => rfl⟩
 | j + 1, d, hj, h => by
  unfold insInner
  split
  ·rename_i hc
   have hc : a < j + 1 := by simp at hc; omega
   have g := swp_get d hj (show j < d.size by omega)
   have ih := insInner_all a p j (swp d (j + 1) j) (by rw [size_swp]; omega) (fun q h1 h2 => by
    rw [g]
    by_cases e : q = j
    ·rw [if_pos e]; exact h _ (by omega) (by omega)
    ·rw [if_neg e, if_neg (by omega)]; exact h q h1 (by omega))
   refine ⟨fun q h1 h2 => ?_, fun q hq => ?_⟩
   ·by_cases e : q = j + 1
    ·subst e
     rw [ih.2 (j + 1) (by omega), g, if_neg (by omega), if_pos rfl]
     exact h j (by omega) (by omega)
    ·exact ih.1 q h1 (by omega)
   ·rw [ih.2 q (by omega), g, if_neg (by omega), if_neg (by omega)]
  ·exact ⟨h, fun _ _ => rfl⟩
theorem insInner_tl (a : Nat) : ∀ (j : Nat) (d : Array α), j < d.size → (∀ q, a ≤ q → q < j → idx d[q]! < idx d[j]!) → insInner lt a j d = insInner (tl lt idx) a j d
 | 0, d, _, _ => by unfold insInner; rfl
 | j + 1, d, hj, h => by
  unfold insInner
  by_cases ha : j + 1 > a
  ·rw [tl_of (h j (by omega) (by omega))]
   split
   ·have g := swp_get d hj (show j < d.size by omega)
    refine insInner_tl a j _ (by rw [size_swp]; omega) fun q h1 h2 => ?_
    rw [g, g, if_neg (by omega), if_neg (by omega), if_pos rfl]
    exact h q h1 (by omega)
   ·rfl
  ·simp only [ha, decide_false, Bool.false_and, Bool.false_eq_true, if_false]
theorem insOuter_tl (a b : Nat) : ∀ (n i : Nat) (d : Array α), b - i = n → a ≤ i → b ≤ d.size → (∀ p q, a ≤ p → p < i → i ≤ q → q < b → idx d[p]! < idx d[q]!) → (∀ p q, i ≤ p → p < q → q < b → idx d[p]! < idx d[q]!) → insOuter lt a b i d = insOuter (tl lt idx) a b i d
 | 0, i, d, hn, _, _, _, _ => by
  have e1 : insOuter lt a b i d = d := by rw [insOuter, if_neg (by omega)]
  have e2 : insOuter (tl lt idx) a b i d = d := by rw [insOuter, if_neg (by omega)]
  rw [e1, e2]
 | n + 1, i, d, hn, hai, hb, h1, h2 => by
  have hib : i < b := by omega
  have e1 : insOuter lt a b i d = insOuter lt a b (i + 1) (insInner lt a i d) := by rw [insOuter, if_pos hib]
  have e2 : insOuter (tl lt idx) a b i d = insOuter (tl lt idx) a b (i + 1) (insInner (tl lt idx) a i d) := by rw [insOuter, if_pos hib]
  rw [e1, e2, ← insInner_tl a i d (by omega) (fun q h3 h4 => h1 q i h3 h4 (Nat.le_refl _) hib)]
  have hall := insInner_all (lt := lt) a (fun x => ∀ q, i < q → q < b → idx x < idx d[q]!) i d (by omega) (fun p hp hpi q hq hqb => by
   by_cases e : p = i
   ·subst e; exact h2 p q (Nat.le_refl _) hq hqb
   ·exact h1 p q hp (by omega) (by omega) hqb)
  refine insOuter_tl a b n (i + 1) _ (by omega) (by omega) (by rw [insInner_size]; exact hb) (fun p q hp hpi hq hqb => ?_) fun p q hp hpq hqb => ?_
  ·rw [hall.2 q (by omega)]; exact hall.1 p hp (by omega) q (by omega) hqb
  ·rw [hall.2 p (by omega), hall.2 q (by omega)]; exact h2 p q (by omega) hpq hqb
theorem ins_tl (hS : SWO lt) (d : Array α) (a b : Nat) (hab : a ≤ b) (hb : b ≤ d.size) (h : ∀ p q, a ≤ p → p < q → q < b → idx d[p]! < idx d[q]!) :
  PermIn a b d (insertionSort lt d a b) ∧ SortedIn (tl lt idx) a b (insertionSort lt d a b) := by
 have e : insertionSort lt d a b = insertionSort (tl lt idx) d a b := by
  unfold insertionSort
  exact insOuter_tl a b _ (a + 1) d rfl (by omega) hb (fun p q h1 h2 h3 h4 => h p q h1 (by omega) h4) (fun p q h1 h2 h3 => h p q (by omega) h2 h3)
 rw [e]
 exact insertionSort_holds (tl_swo hS) d a b hab hb

/-! ### Merging -/
def movedUp (d d' : Array α) (p q : Nat) : Prop := ∀ k, d'[k]! = if k < p then d[k]! else if k < q then d[k + 1]! else if k = q then d[p]! else d[k]!
theorem movedUp.refl (d : Array α) (p : Nat) : movedUp d d p p := fun k => by
 by_cases h1 : k < p
 ·rw [if_pos h1]
 ·rw [if_neg h1, if_neg h1]
  by_cases h2 : k = p
  ·rw [if_pos h2, h2]
  ·rw [if_neg h2]
theorem movedUp.next {d d' : Array α} {p q : Nat} (h : movedUp d d' p q) (hpq : p ≤ q) (hs : d'.size = d.size) (hq : q + 1 < d.size) : movedUp d (swp d' q (q + 1)) p (q + 1) := fun k => by
 rw [swp_get d' (by omega) (by omega)]
 by_cases h1 : k = q + 1
 ·subst h1
  rw [if_pos rfl, h q, if_neg (by omega), if_neg (by omega), if_pos rfl, if_neg (by omega), if_neg (by omega), if_pos rfl]
 ·rw [if_neg h1]
  by_cases h2 : k = q
  ·subst h2
   rw [if_pos rfl, h (k + 1), if_neg (by omega), if_neg (by omega), if_neg (by omega), if_neg (by omega), if_pos (by omega)]
  ·rw [if_neg h2, h k]
   by_cases h3 : k < p
   ·rw [if_pos h3, if_pos h3]
   ·rw [if_neg h3, if_neg h3]
    by_cases h4 : k < q
    ·rw [if_pos h4, if_pos (by omega)]
    ·rw [if_neg h4, if_neg h2, if_neg (by omega), if_neg h1]
def movedDown (d d' : Array α) (p q : Nat) : Prop := ∀ k, d'[k]! = if k < p then d[k]! else if k = p then d[q]! else if k ≤ q then d[k - 1]! else d[k]!
theorem movedDown.refl (d : Array α) (q : Nat) : movedDown d d q q := fun k => by
 by_cases h1 : k < q
 ·rw [if_pos h1]
 ·rw [if_neg h1]
  by_cases h2 : k = q
  ·rw [if_pos h2, h2]
  ·rw [if_neg h2, if_neg (by omega)]
theorem movedDown.next {d d' : Array α} {p q : Nat} (h : movedDown d d' (p + 1) q) (hpq : p + 1 ≤ q) (hs : d'.size = d.size) (hq : q < d.size) : movedDown d (swp d' (p + 1) p) p q := fun k => by
 rw [swp_get d' (by omega) (by omega)]
 by_cases h1 : k = p
 ·subst h1
  rw [if_pos rfl, h (k + 1), if_neg (by omega), if_pos rfl, if_neg (by omega), if_pos rfl]
 ·rw [if_neg h1]
  by_cases h2 : k = p + 1
  ·subst h2
   rw [if_pos rfl, h p, if_pos (by omega), if_neg (by omega), if_neg (by omega), if_pos (by omega)]
   rfl
  ·rw [if_neg h2, h k]
   by_cases h3 : k < p
   ·rw [if_pos h3, if_pos (by omega)]
   ·rw [if_neg h3, if_neg (by omega), if_neg h2, if_neg h1]
theorem mrg_up (hS : SWO lt) {d d' : Array α} {a b i : Nat} (hai : a < i) (hib : i ≤ b) (hs : SortedIn lt (a + 1) b d) (h1 : i = a + 1 ∨ lt d[i - 1]! d[a]! = true) (h2 : i = b ∨ lt d[i]! d[a]! = false) (hm : movedUp d d' a (i - 1)) : SortedIn lt a b d' := by
 intro p q hap hpq hqb
 have hx : ∀ k, a < k → k < i → lt d[k]! d[a]! = true := fun k hk hki => by
  rcases h1 with h1 | h1
  ·omega
  ·by_cases e : k = i - 1
   ·subst e; exact h1
   ·have h3 := hs k (i - 1) (by omega) (by omega) (by omega)
    cases hc : lt d[k]! d[a]! with
    | true => rfl
    | false => rw [hS.ntrans _ _ _ h3 hc] at h1; cases h1
 have hy : ∀ k, i ≤ k → k < b → lt d[k]! d[a]! = false := fun k hk hkb => by
  rcases h2 with h2 | h2
  ·omega
  ·by_cases e : k = i
   ·subst e; exact h2
   ·exact hS.ntrans _ _ _ (hs i k (by omega) (by omega) hkb) h2
 rw [hm p, hm q, if_neg (show ¬ p < a by omega), if_neg (show ¬ q < a by omega)]
 by_cases c1 : q < i - 1
 ·rw [if_pos c1, if_pos (by omega)]; exact hs _ _ (by omega) (by omega) (by omega)
 ·rw [if_neg c1]
  by_cases c2 : q = i - 1
  ·rw [if_pos c2, if_pos (by omega)]
   exact hS.asymmA (hx (p + 1) (by omega) (by omega))
  ·rw [if_neg c2]
   by_cases c3 : p < i - 1
   ·rw [if_pos c3]; exact hs _ _ (by omega) (by omega) hqb
   ·rw [if_neg c3]
    by_cases c4 : p = i - 1
    ·rw [if_pos c4]; exact hy q (by omega) hqb
    ·rw [if_neg c4]; exact hs _ _ (by omega) hpq hqb
theorem mrg_down (hS : SWO lt) {d d' : Array α} {a m i : Nat} (hai : a ≤ i) (him : i ≤ m) (hs : SortedIn lt a m d) (h1 : i = a ∨ lt d[m]! d[i - 1]! = false) (h2 : i = m ∨ lt d[m]! d[i]! = true) (hm : movedDown d d' i m) : SortedIn lt a (m + 1) d' := by
 intro p q hap hpq hqb
 have hx : ∀ k, a ≤ k → k < i → lt d[m]! d[k]! = false := fun k hk hki => by
  rcases h1 with h1 | h1
  ·omega
  ·by_cases e : k = i - 1
   ·subst e; exact h1
   ·exact hS.ntrans _ _ _ h1 (hs k (i - 1) (by omega) (by omega) (by omega))
 have hy : ∀ k, i ≤ k → k < m → lt d[m]! d[k]! = true := fun k hk hkb => by
  rcases h2 with h2 | h2
  ·omega
  ·by_cases e : k = i
   ·subst e; exact h2
   ·have h3 := hs i k hai (by omega) hkb
    cases hc : lt d[m]! d[k]! with
    | true => rfl
    | false => rw [hS.ntrans _ _ _ hc h3] at h2; cases h2
 rw [hm p, hm q]
 by_cases c1 : q < i
 ·rw [if_pos c1, if_pos (by omega)]; exact hs _ _ (by omega) (by omega) (by omega)
 ·rw [if_neg c1]
  by_cases c2 : q = i
  ·rw [if_pos c2, if_pos (by omega)]
   exact hx p (by omega) (by omega)
  ·rw [if_neg c2, if_pos (by omega)]
   by_cases c3 : p < i
   ·rw [if_pos c3]; exact hs _ _ (by omega) (by omega) (by omega)
   ·rw [if_neg c3]
    by_cases c4 : p = i
    ·rw [if_pos c4]; exact hS.asymmA (hy (q - 1) (by omega) (by omega))
    ·rw [if_neg c4, if_pos (by omega)]; exact hs _ _ (by omega) (by omega) (by omega)
def rotated (d d' : Array α) (s m e : Nat) : Prop := ∀ k, d'[k]! = if k < s then d[k]! else if k < s + (e - m) then d[m + (k - s)]! else if k < e then d[s + (k - (s + (e - m)))]! else d[k]!
theorem rotated.none {d : Array α} {s m e : Nat} (h1 : s ≤ m) (h2 : m ≤ e) (h : s = m ∨ m = e) : rotated d d s m e := fun k => by
 by_cases c1 : k < s
 ·rw [if_pos c1]
 ·rw [if_neg c1]
  by_cases c2 : k < s + (e - m)
  ·rw [if_pos c2, show m + (k - s) = k by omega]
  ·rw [if_neg c2]
   by_cases c3 : k < e
   ·rw [if_pos c3, show s + (k - (s + (e - m))) = k by omega]
   ·rw [if_neg c3]
def swapped (d d' : Array α) (p q i : Nat) : Prop := ∀ k, d'[k]! = if p ≤ k ∧ k < p + i then d[q + (k - p)]! else if q ≤ k ∧ k < q + i then d[p + (k - q)]! else d[k]!
theorem swapped.refl (d : Array α) (p q : Nat) : swapped d d p q 0 := fun k => by rw [if_neg (by omega), if_neg (by omega)]
theorem swapped.next {d d' : Array α} {p q i : Nat} (h : swapped d d' p q i) (hpq : p + (i + 1) ≤ q) (hs : d'.size = d.size) (hq : q + i < d.size) : swapped d (swp d' (p + i) (q + i)) p q (i + 1) := fun k => by
 rw [swp_get d' (by omega) (by omega)]
 by_cases h1 : k = q + i
 ·subst h1
  rw [if_pos rfl, h (p + i), if_neg (by omega), if_neg (by omega), if_neg (by omega), if_pos (by omega), show p + (q + i - q) = p + i by omega]
 ·rw [if_neg h1]
  by_cases h2 : k = p + i
  ·subst h2
   rw [if_pos rfl, h (q + i), if_neg (by omega), if_neg (by omega), if_pos (by omega), show q + (p + i - p) = q + i by omega]
  ·rw [if_neg h2, h k]
   by_cases c1 : p ≤ k ∧ k < p + i
   ·rw [if_pos c1, if_pos (by omega)]
   ·rw [if_neg c1, if_neg (show ¬ (p ≤ k ∧ k < p + (i + 1)) by omega)]
    by_cases c2 : q ≤ k ∧ k < q + i
    ·rw [if_pos c2, if_pos (by omega)]
    ·rw [if_neg c2, if_neg (by omega)]
theorem rot_left {d d' d2 : Array α} {m i j : Nat} (hi : i ≤ m) (hij : j < i) (h : swapped d d' (m - i) m j) (h2 : rotated d' d2 (m - (i - j)) m (m + j)) : rotated d d2 (m - i) m (m + j) := fun k => by
 rw [h2 k]
 by_cases c1 : k < m - i
 ·rw [if_pos (by omega), if_pos c1, h k, if_neg (by omega), if_neg (by omega)]
 ·rw [if_neg c1]
  by_cases c2 : k < m - i + (m + j - m)
  ·rw [if_pos (by omega), if_pos c2, h k, if_pos (by omega)]
  ·rw [if_neg c2, if_neg (by omega)]
   by_cases c3 : k < m - (i - j) + (m + j - m)
   ·rw [if_pos c3, if_pos (by omega), h, if_neg (by omega), if_pos (by omega)]
    congr 1; omega
   ·rw [if_neg c3]
    by_cases c4 : k < m + j
    ·rw [if_pos c4, if_pos c4, h, if_neg (by omega), if_neg (by omega)]
     congr 1; omega
    ·rw [if_neg c4, if_neg c4, h, if_neg (by omega), if_neg (by omega)]
theorem rot_right {d d' d2 : Array α} {m i j : Nat} (hi : i ≤ m) (hij : i < j) (h : swapped d d' (m - i) (m + j - i) i) (h2 : rotated d' d2 (m - i) m (m + (j - i))) : rotated d d2 (m - i) m (m + j) := fun k => by
 rw [h2 k]
 by_cases c1 : k < m - i
 ·rw [if_pos c1, if_pos c1, h k, if_neg (by omega), if_neg (by omega)]
 ·rw [if_neg c1, if_neg c1]
  by_cases c2 : k < m - i + (m + (j - i) - m)
  ·rw [if_pos c2, if_pos (by omega), h, if_neg (by omega), if_neg (by omega)]
  ·rw [if_neg c2]
   by_cases c3 : k < m + (j - i)
   ·rw [if_pos c3, if_pos (by omega), h, if_pos (by omega)]
    congr 1; omega
   ·rw [if_neg c3]
    by_cases c4 : k < m - i + (m + j - m)
    ·omega
    ·rw [if_neg c4]
     by_cases c5 : k < m + j
     ·rw [if_pos c5, h, if_neg (by omega), if_pos (by omega)]
      congr 1; omega
     ·rw [if_neg c5, h, if_neg (by omega), if_neg (by omega)]
theorem rot_even {d d' : Array α} {m i : Nat} (hi : i ≤ m) (h : swapped d d' (m - i) m i) : rotated d d' (m - i) m (m + i) := fun k => by
 rw [h k]
 by_cases c1 : k < m - i
 ·rw [if_neg (by omega), if_neg (by omega), if_pos c1]
 ·rw [if_neg c1]
  by_cases c2 : k < m - i + (m + i - m)
  ·rw [if_pos (by omega), if_pos c2]
  ·rw [if_neg c2, if_neg (by omega)]
   by_cases c3 : k < m + i
   ·rw [if_pos (by omega), if_pos c3]; congr 1; omega
   ·rw [if_neg (by omega), if_neg c3]
theorem rot_parts (hS : SWO lt) {d d1 : Array α} {a s m e b t : Nat} (ht : t = s + (e - m)) (h1 : a ≤ s) (h2 : s ≤ m) (h3 : m ≤ e) (h4 : e ≤ b) (hl : SortedIn lt a m d) (hr : SortedIn lt m b d) (hm : rotated d d1 s m e)
  (hx : s = a ∨ e = b ∨ lt d[e]! d[s - 1]! = false) (hy : s = m ∨ e = m ∨ lt d[e - 1]! d[s]! = true) :
  SortedIn lt a s d1 ∧ SortedIn lt s t d1 ∧ SortedIn lt t e d1 ∧ SortedIn lt e b d1 ∧ ∀ p q, a ≤ p → p < t → t ≤ q → q < b → lt d1[q]! d1[p]! = false := by
 subst ht
 have g1 : ∀ k, k < s → d1[k]! = d[k]! := fun k h => by rw [hm k, if_pos h]
 have g2 : ∀ k, s ≤ k → k < s + (e - m) → d1[k]! = d[m + (k - s)]! := fun k h h' => by rw [hm k, if_neg (by omega), if_pos h']
 have g3 : ∀ k, s + (e - m) ≤ k → k < e → d1[k]! = d[s + (k - (s + (e - m)))]! := fun k h h' => by rw [hm k, if_neg (by omega), if_neg (by omega), if_pos h']
 have g4 : ∀ k, e ≤ k → d1[k]! = d[k]! := fun k h => by rw [hm k, if_neg (by omega), if_neg (by omega), if_neg (by omega)]
 refine ⟨fun p q h5 h6 h7 => ?_, fun p q h5 h6 h7 => ?_, fun p q h5 h6 h7 => ?_, fun p q h5 h6 h7 => ?_, fun p q h5 h6 h7 h8 => ?_⟩
 ·rw [g1 p (by omega), g1 q h7]; exact hl p q h5 h6 (by omega)
 ·rw [g2 p h5 (by omega), g2 q (by omega) h7]; exact hr _ _ (by omega) (by omega) (by omega)
 ·rw [g3 p h5 (by omega), g3 q (by omega) h7]; exact hl _ _ (by omega) (by omega) (by omega)
 ·rw [g4 p h5, g4 q (by omega)]; exact hr _ _ (by omega) h6 h7
 ·have le : ∀ x y z : α, lt y x = false → lt z y = false → lt z x = false := fun x y z hxy hyz => hS.ntrans _ _ _ hyz hxy
  have self : ∀ x : α, lt x x = false := hS.irrefl
  by_cases c1 : p < s
  ·rw [g1 p c1]
   by_cases c2 : q < e
   ·rw [g3 q h7 c2]; exact hl _ _ h5 (by omega) (by omega)
   ·rw [g4 q (by omega)]
    rcases hx with hx | hx | hx
    ·omega
    ·omega
    ·have e1 : lt d[s - 1]! d[p]! = false := by
      by_cases c : p = s - 1
      ·rw [c]; exact self _
      ·exact hl _ _ h5 (by omega) (by omega)
     have e2 : lt d[q]! d[e]! = false := by
      by_cases c : q = e
      ·rw [c]; exact self _
      ·exact hr _ _ (by omega) (by omega) h8
     exact le _ _ _ (le _ _ _ e1 hx) e2
  ·rw [g2 p (by omega) h6]
   by_cases c2 : q < e
   ·rw [g3 q h7 c2]
    rcases hy with hy | hy | hy
    ·omega
    ·omega
    ·have e1 : lt d[e - 1]! d[m + (p - s)]! = false := by
      by_cases c : m + (p - s) = e - 1
      ·rw [c]; exact self _
      ·exact hr _ _ (by omega) (by omega) (by omega)
     have e2 : lt d[s + (q - (s + (e - m)))]! d[s]! = false := by
      by_cases c : s + (q - (s + (e - m))) = s
      ·rw [c]; exact self _
      ·exact hl _ _ h1 (by omega) (by omega)
     exact le _ _ _ (le _ _ _ e1 (hS.asymmA hy)) e2
   ·rw [g4 q (by omega)]; exact hr _ _ (by omega) (by omega) h8
def lowIn (idx : α → Nat) (a m b : Nat) (d : Array α) : Prop := ∀ p q, a ≤ p → p < m → m ≤ q → q < b → idx d[p]! < idx d[q]!
theorem rot_low {d d1 : Array α} {a s m e b t : Nat} (ht : t = s + (e - m)) (h1 : a ≤ s) (h2 : s ≤ m) (h3 : m ≤ e) (h4 : e ≤ b) (hL : lowIn idx a m b d) (hm : rotated d d1 s m e) : lowIn idx a s t d1 ∧ lowIn idx t e b d1 := by
 subst ht
 refine ⟨fun p q h5 h6 h7 h8 => ?_, fun p q h5 h6 h7 h8 => ?_⟩
 ·rw [hm p, if_pos h6, hm q, if_neg (by omega), if_pos h8]; exact hL _ _ h5 (by omega) (by omega) (by omega)
 ·rw [hm p, if_neg (by omega), if_neg (by omega), if_pos h6, hm q, if_neg (by omega), if_neg (by omega), if_neg (by omega)]; exact hL _ _ (by omega) (by omega) (by omega) h8
theorem mrg_join {d1 d2 d3 : Array α} {a t b : Nat} (hat : a ≤ t) (htb : t ≤ b) (hb : b ≤ d1.size) (hc : ∀ p q, a ≤ p → p < t → t ≤ q → q < b → lt d1[q]! d1[p]! = false)
  (p1 : PermIn a t d1 d2) (s1 : SortedIn lt a t d2) (p2 : PermIn t b d2 d3) (s2 : SortedIn lt t b d3) : PermIn a b d1 d3 ∧ SortedIn lt a b d3 := by
 have hb2 : b ≤ d2.size := by rw [p1.1]; exact hb
 refine ⟨permIn_trans _ _ _ _ _ (permIn_mono _ _ a t a b (Nat.le_refl _) htb hb p1) (permIn_mono _ _ t b a b hat (Nat.le_refl _) hb2 p2), ?_⟩
 have c2 : ∀ p q, a ≤ p → p < t → t ≤ q → q < b → lt d2[q]! d2[p]! = false := fun p q h1 h2 h3 h4 => by
  rw [p1.2.1 q (.inr h3)]
  exact permIn_all d1 d2 a t (fun x => lt d1[q]! x = false) (by omega) p1 (fun i h5 h6 => hc i q h5 h6 h3 h4) p h1 h2
 have c3 : ∀ p q, a ≤ p → p < t → t ≤ q → q < b → lt d3[q]! d3[p]! = false := fun p q h1 h2 h3 h4 => by
  rw [p2.2.1 p (.inl h2)]
  exact permIn_all d2 d3 t b (fun x => lt x d2[p]! = false) hb2 p2 (fun i h5 h6 => c2 p i h1 h2 h5 h6) q h3 h4
 intro p q h1 h2 h3
 by_cases e1 : q < t
 ·rw [p2.2.1 p (.inl (by omega)), p2.2.1 q (.inl e1)]; exact s1 p q h1 h2 e1
 ·by_cases e2 : t ≤ p
  ·exact s2 p q e2 h2 h3
  ·exact c3 p q h1 (by omega) (by omega) h3

/-! ### The whole: blocks of s elements, from place lo on -/
def stBlk (lt : α → α → Bool) (idx : α → Nat) (s n k : Nat) (d : Array α) : Prop :=
 SortedIn lt (k * s) (min (k * s + s) n) d ∧ ∀ p, k * s ≤ p → p < min (k * s + s) n → k * s ≤ idx d[p]! ∧ idx d[p]! < k * s + s
theorem stBlk.keep {s n k a b : Nat} {d d' : Array α} (h : stBlk lt idx s n k d) (hp : PermIn a b d d') (hd : k * s + s ≤ a ∨ b ≤ k * s) : stBlk lt idx s n k d' := by
 obtain ⟨h1, h2⟩ := h
 refine ⟨fun p q h3 h4 h5 => ?_, fun p h3 h4 => ?_⟩
 ·rw [hp.2.1 p (by omega), hp.2.1 q (by omega)]; exact h1 p q h3 h4 h5
 ·rw [hp.2.1 p (by omega)]; exact h2 p h3 h4
theorem stBlk.none {s n k : Nat} {d : Array α} (h : n ≤ k * s) : stBlk lt idx s n k d := ⟨fun p q h3 h4 h5 => by omega, fun p h3 h4 => by omega⟩
theorem stBlk.ins {s n k a b : Nat} {d d' : Array α} (ha : a = k * s) (hb : b = min (k * s + s) n) (hbs : b ≤ d.size) (hd : ∀ p, a ≤ p → p < b → idx d[p]! = p) (hp : PermIn a b d d') (hs : SortedIn lt a b d') : stBlk lt idx s n k d' := by
 subst ha
 subst hb
 exact ⟨hs, permIn_all d d' _ _ (fun x => k * s ≤ idx x ∧ idx x < k * s + s) hbs hp fun i h1 h2 => by rw [hd i h1 h2]; omega⟩
theorem stBlk_two (i s : Nat) : 2 * i * s = i * (2 * s) ∧ (2 * i + 1) * s = i * (2 * s) + s := by
 have h : 2 * i * s = i * (2 * s) := by rw [Nat.mul_comm 2 i, Nat.mul_assoc]
 exact ⟨h, by rw [Nat.add_mul, h, Nat.one_mul]⟩
theorem stBlk.halves {s n i a e : Nat} {d : Array α} (ha : a = i * (2 * s)) (he : e = min (a + 2 * s) n) (hm : a + s < e) (h1 : stBlk lt idx s n (2 * i) d) (h2 : stBlk lt idx s n (2 * i + 1) d) :
  SortedIn lt a (a + s) d ∧ SortedIn lt (a + s) e d ∧ lowIn idx a (a + s) e d := by
 obtain ⟨e1, e2⟩ := stBlk_two i s
 unfold stBlk at h1 h2
 rw [e1, ← ha] at h1
 rw [e2, ← ha] at h2
 refine ⟨fun p q h3 h4 h5 => h1.1 p q h3 h4 (by omega), fun p q h3 h4 h5 => h2.1 p q h3 h4 (by omega), fun p q h3 h4 h5 h6 => ?_⟩
 have := (h1.2 p h3 (by omega)).2
 have := (h2.2 q h5 (by omega)).1
 omega
theorem stBlk.whole {s n i a e : Nat} {d d' : Array α} (ha : a = i * (2 * s)) (he : e = min (a + 2 * s) n) (hes : e ≤ d.size) (h1 : stBlk lt idx s n (2 * i) d) (h2 : stBlk lt idx s n (2 * i + 1) d) (hp : PermIn a e d d') (hs : SortedIn lt a e d') : stBlk lt idx (2 * s) n i d' := by
 obtain ⟨e1, e2⟩ := stBlk_two i s
 unfold stBlk at h1 h2 ⊢
 rw [e1, ← ha] at h1
 rw [e2, ← ha] at h2
 rw [← ha, ← he]
 refine ⟨hs, permIn_all d d' _ _ (fun x => a ≤ idx x ∧ idx x < a + 2 * s) hes hp fun j h3 h4 => ?_⟩
 by_cases c : j < a + s
 ·have := h1.2 j h3 (by omega); omega
 ·have := h2.2 j (by omega) (by omega); omega
theorem stBlk.half {s n i : Nat} {d : Array α} (hn : n ≤ i * (2 * s) + s) (h1 : stBlk lt idx s n (2 * i) d) : stBlk lt idx (2 * s) n i d := by
 obtain ⟨e1, e2⟩ := stBlk_two i s
 unfold stBlk at h1 ⊢
 rw [e1] at h1
 refine ⟨fun p q h3 h4 h5 => h1.1 p q h3 h4 (by omega), fun p h3 h4 => ?_⟩
 have := h1.2 p h3 (by omega); omega
theorem stBlk.all {s n : Nat} {d : Array α} (hn : n ≤ s) (h1 : stBlk lt idx s n 0 d) : SortedIn lt 0 n d := fun p q h3 h4 h5 => h1.1 p q (by omega) h4 (by omega)
end
open Go.Shelf Go.RowKit Go.Lib Go.Sort
variable {α : Type} [Inhabited α] {enc : α → Value} {w0 : World} {blk off : Nat} {d0 : Array α}
set_option maxHeartbeats 4000000 in
set_option maxRecDepth 100000 in
theorem st_swapRange (R : Row1 enc w0 blk off d0) (g : Nat) (cb : Array Value) (cap lo hi a b n : Nat) (d : Array α) (w : World) (hs : d0.size = d.size) (S : SW enc w0 blk off d w) (hab : a + n ≤ b) (hb : b + n ≤ hi) (hlo : lo ≤ a) (hhi : hi ≤ d.size) (hsz : d.size < 4611686018427387904) :
  Calls Try.prog 54 #[.slice (some ⟨blk, off, none⟩) d.size cap, .int .i64 a, .int .i64 b, .int .i64 n, .func (.func g) #[] cb] w fun e w' => e = .returned (.tuple #[]) ∧ ∃ d' : Array α, SW enc w0 blk off d' w' ∧ swapped d d' a b n ∧ PermIn lo hi d d' := by
 have hcl0 := R.hO.cells
 simp only [Value.cells] at hcl0
 have hst := R.hO.store Try.prog
 have S0 : Aside (SW enc w0 blk off d w) := S
 clear S
 go_enter Try.func54, Try.ntmps54
 go_wp2_with fail
 go_loopg [10] n (fun kx s wr => ∃ (i : Nat) (dk : Array α), s = .int .i64 i ∧ i ≤ n ∧ n - i ≤ kx ∧ dk.size = d.size ∧ Aside (SW enc w0 blk off dk wr) ∧ Hid (swapped d dk a b i) ∧ Hid (PermIn lo hi d dk))
 case atStart => exact ⟨0, d, rfl, by omega, by omega, rfl, S0, Lib.hid (swapped.refl d a b), Lib.hid (permIn_refl d lo hi)⟩
 case round =>
  clear S0
  obtain ⟨i, dk, rfl, hin, hkx, hds, S1, HS, HP⟩ := hrel
  by_cases hlt : i < n
  ·have hltz : (i : Int) < (n : Int) := by omega
   obtain ⟨iN, hiN⟩ : ∃ q, q = a + i := ⟨_, rfl⟩
   obtain ⟨jN, hjN⟩ : ∃ q, q = b + i := ⟨_, rfl⟩
   have ea : ((a : Int) + i).toNat = iN := by omega
   have pa : (0 : Int) ≤ (a : Int) + i := by omega
   have ba : (a : Int) + i < (d.size : Int) := by omega
   have ra : IntKind.i64.wrap ((a : Int) + i) = (a : Int) + i := by rw [IntKind.wrap_i64]; omega
   have ec : ((b : Int) + i).toNat = jN := by omega
   have pc : (0 : Int) ≤ (b : Int) + i := by omega
   have bc : (b : Int) + i < (d.size : Int) := by omega
   have rc : IntKind.i64.wrap ((b : Int) + i) = (b : Int) + i := by rw [IntKind.wrap_i64]; omega
   obtain ⟨x, hx⟩ : ∃ x, x = dk[a + i]! := ⟨_, rfl⟩
   obtain ⟨y, hy⟩ : ∃ x, x = dk[b + i]! := ⟨_, rfl⟩
   have S2 : Aside (SW enc w0 blk off (swp dk (a + i) (b + i)) ((wr.setCell ⟨blk, off + iN, none⟩ (enc y)).setCell ⟨blk, off + jN, none⟩ (enc x)).drew) := by rw [hiN, hjN, hx, hy]; exact S1.out.swapped R (a + i) (b + i) (by omega) (by omega)
   have c1 := S1.out.c1 R (by omega) (a + i) (by omega)
   have c2 := S1.out.c1 R (by omega) (b + i) (by omega)
   have f1 := S1.out.f1 R (by omega) (a + i) (by omega)
   have f2 := S1.out.f1 R (by omega) (b + i) (by omega)
   obtain ⟨u, c3⟩ := S1.out.c2 R (by omega) (a + i) (b + i) (by omega) (by omega) (enc y)
   rw [← hjN, ← hiN] at c3
   rw [← hx, ← hiN] at c1
   rw [← hy, ← hjN] at c2
   rw [← hiN] at f1
   rw [← hjN] at f2
   clear S1 hx hy hiN hjN
   go_wp2_with fail
   go_region
   clear c1 c2 c3 f1 f2
   generalize ((wr.setCell ⟨blk, off + iN, none⟩ (enc y)).setCell ⟨blk, off + jN, none⟩ (enc x)).drew = w2 at S2 ⊢
   clear ea ec
   go_wp2_with fail
   go_roundg (n - (i + 1))
   case measure => omega
   case rel =>
    exact ⟨i + 1, swp dk (a + i) (b + i), by go_num, by omega, by omega, by rw [size_swp]; exact hds, S2, Lib.hid (HS.out.next (by omega) hds (by omega)), Lib.hid (permIn_trans _ _ _ _ _ HP.out (swp_permIn _ _ _ _ _ (by omega) (by omega) (by omega) (by omega) (by omega)))⟩
  ·obtain rfl : i = n := by omega
   go_wp2_with fail
   go_end0
   exact ⟨rfl, dk, S1.out, HS.out, HP.out⟩
set_option maxHeartbeats 4000000 in
set_option maxRecDepth 100000 in
theorem st_rotate (R : Row1 enc w0 blk off d0) (g : Nat) (cb : Array Value) (cap lo hi a m b : Nat) (d : Array α) (w : World) (hs : d0.size = d.size) (S : SW enc w0 blk off d w) (ham : a < m) (hmb : m < b) (hb : b ≤ hi) (hlo : lo ≤ a) (hhi : hi ≤ d.size) (hsz : d.size < 4611686018427387904) :
  Calls Try.prog 53 #[.slice (some ⟨blk, off, none⟩) d.size cap, .int .i64 a, .int .i64 m, .int .i64 b, .func (.func g) #[] cb] w fun e w' => e = .returned (.tuple #[]) ∧ ∃ d' : Array α, SW enc w0 blk off d' w' ∧ rotated d d' a m b ∧ PermIn lo hi d d' := by
 have S0 : Aside (SW enc w0 blk off d w) := S
 clear S
 have hsw := fun a b n dk w h1 h2 h3 h4 h5 h6 => st_swapRange (enc := enc) (w0 := w0) (blk := blk) (off := off) R g cb cap lo hi a b n dk w h1 h2 h3 h4 h5 h6
 have HSW := Lib.hid hsw
 clear hsw
 obtain ⟨i0, hi0⟩ : ∃ i0 : Nat, (m : Int) - a = i0 := ⟨m - a, by omega⟩
 obtain ⟨j0, hj0⟩ : ∃ j0 : Nat, (b : Int) - m = j0 := ⟨b - m, by omega⟩
 have E1 : Hid (a = m - i0) := Lib.hid (by omega)
 have E2 : Hid (b = m + j0) := Lib.hid (by omega)
 go_enter Try.func53, Try.ntmps53
 go_wp2_with fail
 go_loopg [10, 11] (i0 + j0) (fun kx si sj wr => ∃ (i j : Nat) (dk : Array α), si = .int .i64 i ∧ sj = .int .i64 j ∧ 0 < i ∧ 0 < j ∧ i ≤ i0 ∧ j ≤ j0 ∧ i + j ≤ kx ∧ dk.size = d.size ∧ Aside (SW enc w0 blk off dk wr) ∧ Hid (∀ d2 : Array α, rotated dk d2 (m - i) m (m + j) → rotated d d2 a m b) ∧ Hid (PermIn lo hi d dk))
 case atStart => exact ⟨i0, j0, d, rfl, rfl, by omega, by omega, by omega, by omega, by omega, rfl, S0, Lib.hid (fun d2 h => by rw [E1.out, E2.out]; exact h), Lib.hid (permIn_refl d lo hi)⟩
 case round =>
  clear S0
  obtain ⟨i, j, dk, rfl, rfl, hi1, hj1, hi2, hj2, hkx, hds, S1, HR, HP⟩ := hrel
  obtain ⟨p, hp⟩ : ∃ p : Nat, (m : Int) - i = p := ⟨m - i, by omega⟩
  have ep : m - i = p := by omega
  rw [ep] at HR
  replace ep := Lib.hid ep
  by_cases hne : i = j
  ·subst hne
   have hcon := HSW.out p m i dk wr (by omega) S1.out (by have := ep.out; omega) (by omega) (by omega) (by omega)
   rw [hds] at hcon
   have hcon := hcon (by omega)
   have hd0 : decide ((i : Int) = (i : Int)) = true := by simp
   have HC := Lib.hid hcon
   clear hcon
   go_wp2_with (go_at_call 54; refine HC.out.mono ?_; rintro e w' ⟨rfl, d2, S2, hsw, hpm⟩)
   go_end0
   exact ⟨rfl, d2, S2, HR.out d2 (by rw [← ep.out]; exact rot_even (by omega) (by rw [ep.out]; exact hsw)), permIn_trans _ _ _ _ _ HP.out hpm⟩
  ·have hne' : ¬ (i : Int) = (j : Int) := by omega
   by_cases hlt : j < i
   ·have hltz : (j : Int) < (i : Int) := by omega
    have hcon := HSW.out p m j dk wr (by omega) S1.out (by have := ep.out; omega) (by omega) (by omega) (by omega)
    rw [hds] at hcon
    have hcon := hcon (by omega)
    have HC := Lib.hid hcon
    clear hcon
    go_wp2_with (go_at_call 54; refine HC.out.mono ?_; rintro e w' ⟨rfl, d2, S2, hsw, hpm⟩)
    have hds2 : d2.size = d.size := hpm.1.trans hds
    have S3 : Aside (SW enc w0 blk off d2 w') := S2
    have HR2 : Hid (∀ d3 : Array α, rotated d2 d3 (m - (i - j)) m (m + j) → rotated d d3 a m b) := Lib.hid fun d3 h3 => HR.out d3 (by rw [← ep.out]; exact rot_left (by omega) hlt (by rw [ep.out]; exact hsw) h3)
    have HP2 := Lib.hid (permIn_trans _ _ _ _ _ HP.out hpm)
    go_roundg (i - j + j)
    case measure => omega
    case rel => exact ⟨i - j, j, d2, by go_num, rfl, by omega, by omega, by omega, by omega, by omega, hds2, S3, HR2, HP2⟩
   ·have hltz : ¬ (j : Int) < (i : Int) := by omega
    obtain ⟨q, hq⟩ : ∃ q : Nat, (m : Int) + j - i = q := ⟨m + j - i, by omega⟩
    have eq : Hid (m + j - i = q) := Lib.hid (by omega)
    have hcon := HSW.out p q i dk wr (by omega) S1.out (by omega) (by omega) (by omega) (by omega)
    rw [hds] at hcon
    have hcon := hcon (by omega)
    have HC := Lib.hid hcon
    clear hcon
    go_wp2_with (go_at_call 54; refine HC.out.mono ?_; rintro e w' ⟨rfl, d2, S2, hsw, hpm⟩)
    have hds2 : d2.size = d.size := hpm.1.trans hds
    have S3 : Aside (SW enc w0 blk off d2 w') := S2
    have HR2 : Hid (∀ d3 : Array α, rotated d2 d3 (m - i) m (m + (j - i)) → rotated d d3 a m b) := Lib.hid fun d3 h3 => HR.out d3 (by rw [← ep.out]; exact rot_right (by omega) (by omega) (by rw [ep.out, eq.out]; exact hsw) h3)
    have HP2 := Lib.hid (permIn_trans _ _ _ _ _ HP.out hpm)
    go_roundg (i + (j - i))
    case measure => omega
    case rel => exact ⟨i, j - i, d2, rfl, by go_num, by omega, by omega, by omega, by omega, by omega, hds2, S3, HR2, HP2⟩
variable {α : Type} [Inhabited α] {enc : α → Value} {w0 : World} {blk off : Nat} {d0 : Array α}
set_option maxHeartbeats 4000000 in
set_option maxRecDepth 100000 in
theorem st_mergeA (R : Row1 enc w0 blk off d0) (cf : α → α → Int) (hS : SWO (ltOf cf)) (idx : α → Nat) (g : Nat) (cb : Array Value) (eg : ∀ args w, (callFunc g args).run Try.prog w = .ok (.enter g args) w) (hcmp : CmpLays1 Try.prog g cb enc cf blk off d0.size w0) (cap a m b : Nat) (d : Array α) (w : World)
  (hs : d0.size = d.size) (S : SW enc w0 blk off d w) (ham : m = a + 1) (hab : m < b) (hb : b ≤ d.size) (hsz : d.size < 4611686018427387904) (hr : SortedIn (tl (ltOf cf) idx) m b d) (hL : lowIn idx a m b d) :
  Calls Try.prog 52 #[.slice (some ⟨blk, off, none⟩) d.size cap, .int .i64 a, .int .i64 m, .int .i64 b, .func (.func g) #[] cb] w fun e w' => e = .returned (.tuple #[]) ∧ ∃ d' : Array α, SW enc w0 blk off d' w' ∧ PermIn a b d d' ∧ SortedIn (tl (ltOf cf) idx) a b d' := by
 have hcl0 := R.hO.cells
 simp only [Value.cells] at hcl0
 have hst := R.hO.store Try.prog
 have mixed : Try.prog.follows .mixedOrders = true := by kernel_rfl
 have S0 : Aside (SW enc w0 blk off d w) := S
 have HC : Aside _ := hcmp
 have HR := Lib.hid hr
 have HLo := Lib.hid hL
 have HSW := Lib.hid hS
 clear S hcmp hr hL hS
 have hone : (m : Int) - a = 1 := by omega
 have HAM := Lib.hid ham
 have ham1 : a < m := by omega
 clear ham
 go_enter Try.func52, Try.ntmps52
 go_wp2_with fail
 go_loopg [10, 11, 12] (b - m) (fun kx si sj sh wr => ∃ (i j : Nat), si = .int .i64 i ∧ sj = .int .i64 j ∧ m ≤ i ∧ i ≤ j ∧ j ≤ b ∧ j - i ≤ kx ∧ Aside (SW enc w0 blk off d wr) ∧ Hid (i = m ∨ tl (ltOf cf) idx d[i - 1]! d[a]! = true) ∧ Hid (j = b ∨ tl (ltOf cf) idx d[j]! d[a]! = false))
 case atStart => exact ⟨m, b, rfl, rfl, by omega, by omega, by omega, by omega, S0, Lib.hid (.inl rfl), Lib.hid (.inl rfl)⟩
 case round =>
  clear S0
  obtain ⟨i, j, rfl, rfl, hi1, hij, hjb, hkx, S1, H1, H2⟩ := hrel
  by_cases hlt : i < j
  ·have hltz : (i : Int) < (j : Int) := by omega
   obtain ⟨h, hh⟩ : ∃ h : Nat, ((i : Int) + j) / 2 = h := ⟨(i + j) / 2, by omega⟩
   have hih : i ≤ h := by omega
   have hhj : h < j := by omega
   have htl : Hid (tl (ltOf cf) idx d[h]! d[a]! = ltOf cf d[h]! d[a]!) := Lib.hid (tl_of (HLo.out a h (by omega) (by omega) (by omega) (by omega)))
   cases hv : tl (ltOf cf) idx d[h]! d[a]! with
   | true =>
    have HV := Lib.hid hv
    clear hv
    obtain ⟨iN1, hiN1⟩ : ∃ q, q = h := ⟨_, rfl⟩
    have ei1 : ((h : Int)).toNat = iN1 := by omega
    have pi1 : (0 : Int) ≤ (h : Int) := by omega
    have bi1 : (h : Int) < (d.size : Int) := by omega
    have ri1 : IntKind.i64.wrap ((h : Int)) = (h : Int) := by rw [IntKind.wrap_i64]; omega
    obtain ⟨jN1, hjN1⟩ : ∃ q, q = a := ⟨_, rfl⟩
    have ej1 : ((a : Int)).toNat = jN1 := by omega
    have pj1 : (0 : Int) ≤ (a : Int) := by omega
    have bj1 : (a : Int) < (d.size : Int) := by omega
    have rj1 : IntKind.i64.wrap ((a : Int)) = (a : Int) := by rw [IntKind.wrap_i64]; omega
    obtain ⟨x1, hx1⟩ : ∃ x, x = d[h]! := ⟨_, rfl⟩
    obtain ⟨y1, hy1⟩ : ∃ x, x = d[a]! := ⟨_, rfl⟩
    have l1a := S1.out.cl R (by omega) (h) (by omega)
    have l1b := S1.out.cl R (by omega) (a) (by omega)
    rw [← hx1, ← hiN1] at l1a
    rw [← hy1, ← hjN1] at l1b
    have hc1 := S1.out.cmp HC.out (by omega) x1 y1
    have hv1 : cf x1 y1 < 0 := by rw [hx1, hy1]; exact of_decide_eq_true (htl.out.symm.trans HV.out)
    have hd1 : decide (cf x1 y1 < 0) = true := decide_eq_true hv1
    clear hx1 hy1 hiN1 hjN1
    go_wp2_with fail
    go_quiet_grown (first | (go_at_fn g; refine Calls.grown_of (hc1 _ _)))
    have S2 : Aside (SW enc w0 blk off d (grow (wr.drewN nq) osq)) := S1.out.grown nq osq
    clear l1a l1b hc1 S1
    generalize grow (wr.drewN nq) osq = w2 at S2 ⊢
    clear nq osq
    clear ei1 ej1 hv1 hd1 pi1 bi1 ri1 pj1 bj1 rj1
    go_wp2_with fail
    go_roundg (j - (h + 1))
    case measure => omega
    case rel => exact ⟨h + 1, j, by go_num, rfl, by omega, by omega, by omega, by omega, S2, Lib.hid (.inr HV.out), H2⟩
   | false =>
    have HV := Lib.hid hv
    clear hv
    obtain ⟨iN2, hiN2⟩ : ∃ q, q = h := ⟨_, rfl⟩
    have ei2 : ((h : Int)).toNat = iN2 := by omega
    have pi2 : (0 : Int) ≤ (h : Int) := by omega
    have bi2 : (h : Int) < (d.size : Int) := by omega
    have ri2 : IntKind.i64.wrap ((h : Int)) = (h : Int) := by rw [IntKind.wrap_i64]; omega
    obtain ⟨jN2, hjN2⟩ : ∃ q, q = a := ⟨_, rfl⟩
    have ej2 : ((a : Int)).toNat = jN2 := by omega
    have pj2 : (0 : Int) ≤ (a : Int) := by omega
    have bj2 : (a : Int) < (d.size : Int) := by omega
    have rj2 : IntKind.i64.wrap ((a : Int)) = (a : Int) := by rw [IntKind.wrap_i64]; omega
    obtain ⟨x2, hx2⟩ : ∃ x, x = d[h]! := ⟨_, rfl⟩
    obtain ⟨y2, hy2⟩ : ∃ x, x = d[a]! := ⟨_, rfl⟩
    have l2a := S1.out.cl R (by omega) (h) (by omega)
    have l2b := S1.out.cl R (by omega) (a) (by omega)
    rw [← hx2, ← hiN2] at l2a
    rw [← hy2, ← hjN2] at l2b
    have hc2 := S1.out.cmp HC.out (by omega) x2 y2
    have hv2 : ¬ cf x2 y2 < 0 := by rw [hx2, hy2]; exact of_decide_eq_false (htl.out.symm.trans HV.out)
    have hd2 : decide (cf x2 y2 < 0) = false := decide_eq_false hv2
    clear hx2 hy2 hiN2 hjN2
    go_wp2_with fail
    go_quiet_grown (first | (go_at_fn g; refine Calls.grown_of (hc2 _ _)))
    have S2 : Aside (SW enc w0 blk off d (grow (wr.drewN nq) osq)) := S1.out.grown nq osq
    clear l2a l2b hc2 S1
    generalize grow (wr.drewN nq) osq = w2 at S2 ⊢
    clear nq osq
    clear ei2 ej2 hv2 hd2 pi2 bi2 ri2 pj2 bj2 rj2
    go_wp2_with fail
    go_roundg (h - i)
    case measure => omega
    case rel => exact ⟨i, h, rfl, rfl, by omega, by omega, by omega, by omega, S2, H1, Lib.hid (.inr HV.out)⟩
  ·obtain rfl : i = j := by omega
   have hii : decide ((i : Int) < (i : Int)) = false := by simp
   go_wp2_with fail
   have S5 : Aside (SW enc w0 blk off d wr) := S1
   clear S1
   go_loopg [13] (i - 1 - a) (fun kx sk wr => ∃ (k : Nat) (dk : Array α), sk = .int .i64 k ∧ a ≤ k ∧ k ≤ i - 1 ∧ i - 1 - k ≤ kx ∧ dk.size = d.size ∧ Aside (SW enc w0 blk off dk wr) ∧ Hid (movedUp d dk a k) ∧ Hid (PermIn a b d dk))
   case atStart => exact ⟨a, d, rfl, by omega, by omega, by omega, rfl, S5, Lib.hid (movedUp.refl d a), Lib.hid (permIn_refl d a b)⟩
   case round =>
    clear S5
    obtain ⟨k, dk, rfl, hk1, hk2, hkx, hds, S1, HM, HP⟩ := hrel
    by_cases hlt2 : k < i - 1
    ·have hltz : (k : Int) < (i : Int) - 1 := by omega
     obtain ⟨iN5, hiN5⟩ : ∃ q, q = k := ⟨_, rfl⟩
     have ei5 : ((k : Int)).toNat = iN5 := by omega
     have pi5 : (0 : Int) ≤ (k : Int) := by omega
     have bi5 : (k : Int) < (d.size : Int) := by omega
     have ri5 : IntKind.i64.wrap ((k : Int)) = (k : Int) := by rw [IntKind.wrap_i64]; omega
     obtain ⟨jN5, hjN5⟩ : ∃ q, q = k + 1 := ⟨_, rfl⟩
     have ej5 : ((k : Int) + 1).toNat = jN5 := by omega
     have pj5 : (0 : Int) ≤ (k : Int) + 1 := by omega
     have bj5 : (k : Int) + 1 < (d.size : Int) := by omega
     have rj5 : IntKind.i64.wrap ((k : Int) + 1) = (k : Int) + 1 := by rw [IntKind.wrap_i64]; omega
     obtain ⟨x5, hx5⟩ : ∃ x, x = dk[k]! := ⟨_, rfl⟩
     obtain ⟨y5, hy5⟩ : ∃ x, x = dk[k + 1]! := ⟨_, rfl⟩
     have S2 : Aside (SW enc w0 blk off (swp dk (k) (k + 1)) ((wr.setCell ⟨blk, off + iN5, none⟩ (enc y5)).setCell ⟨blk, off + jN5, none⟩ (enc x5)).drew) := by rw [hiN5, hjN5, hx5, hy5]; exact S1.out.swapped R (k) (k + 1) (by omega) (by omega)
     have c5a := S1.out.c1 R (by omega) (k) (by omega)
     have c5b := S1.out.c1 R (by omega) (k + 1) (by omega)
     have f5a := S1.out.f1 R (by omega) (k) (by omega)
     have f5b := S1.out.f1 R (by omega) (k + 1) (by omega)
     obtain ⟨u5, c5c⟩ := S1.out.c2 R (by omega) (k) (k + 1) (by omega) (by omega) (enc y5)
     rw [← hjN5, ← hiN5] at c5c
     rw [← hx5, ← hiN5] at c5a
     rw [← hy5, ← hjN5] at c5b
     rw [← hiN5] at f5a
     rw [← hjN5] at f5b
     clear S1 hx5 hy5 hiN5 hjN5
     go_wp2_with fail
     go_region
     clear c5a c5b c5c f5a f5b
     generalize ((wr.setCell ⟨blk, off + iN5, none⟩ (enc y5)).setCell ⟨blk, off + jN5, none⟩ (enc x5)).drew = w2 at S2 ⊢
     clear ei5 ej5 pi5 bi5 ri5 pj5 bj5 rj5
     go_wp2_with fail
     go_roundg (i - 1 - (k + 1))
     case measure => omega
     case rel => exact ⟨k + 1, swp dk k (k + 1), by go_num, by omega, by omega, by omega, by rw [size_swp]; exact hds, S2, Lib.hid (HM.out.next (by omega) hds (by omega)), Lib.hid (permIn_trans _ _ _ _ _ HP.out (swp_permIn _ _ _ _ _ (by omega) (by omega) (by omega) (by omega) (by omega)))⟩
    ·have hltz : ¬ (k : Int) < (i : Int) - 1 := by omega
     have hki : Hid (k = i - 1) := Lib.hid (by omega)
     go_wp2_with fail
     refine bodyPost_ret (results_none rfl _ _ _) rfl ?_
     refine ⟨rfl, dk, S1.out, HP.out, mrg_up (tl_swo HSW.out) (i := i) (by omega) (by omega) (by rw [← HAM.out]; exact HR.out) ?_ H2.out ?_⟩
     ·rw [← HAM.out]; exact H1.out
     ·rw [← hki.out]; exact HM.out
set_option maxHeartbeats 4000000 in
set_option maxRecDepth 100000 in
theorem st_mergeB (R : Row1 enc w0 blk off d0) (cf : α → α → Int) (hS : SWO (ltOf cf)) (idx : α → Nat) (g : Nat) (cb : Array Value) (eg : ∀ args w, (callFunc g args).run Try.prog w = .ok (.enter g args) w) (hcmp : CmpLays1 Try.prog g cb enc cf blk off d0.size w0) (cap a m b : Nat) (d : Array α) (w : World)
  (hs : d0.size = d.size) (S : SW enc w0 blk off d w) (ham : a + 1 < m) (hab : b = m + 1) (hb : b ≤ d.size) (hsz : d.size < 4611686018427387904) (hr : SortedIn (tl (ltOf cf) idx) a m d) (hL : lowIn idx a m b d) :
  Calls Try.prog 52 #[.slice (some ⟨blk, off, none⟩) d.size cap, .int .i64 a, .int .i64 m, .int .i64 b, .func (.func g) #[] cb] w fun e w' => e = .returned (.tuple #[]) ∧ ∃ d' : Array α, SW enc w0 blk off d' w' ∧ PermIn a b d d' ∧ SortedIn (tl (ltOf cf) idx) a b d' := by
 have hcl0 := R.hO.cells
 simp only [Value.cells] at hcl0
 have hst := R.hO.store Try.prog
 have mixed : Try.prog.follows .mixedOrders = true := by kernel_rfl
 have S0 : Aside (SW enc w0 blk off d w) := S
 have HC : Aside _ := hcmp
 have HR := Lib.hid hr
 have HLo := Lib.hid hL
 have HSW := Lib.hid hS
 clear S hcmp hr hL hS
 have hone : (b : Int) - m = 1 := by omega
 have hnone : ((m : Int) - a == 1) = false := by simp; omega
 have HAM := Lib.hid hab
 have hab1 : m < b := by omega
 clear hab
 go_enter Try.func52, Try.ntmps52
 go_wp2_with fail
 go_loopg [14, 15, 16] (m - a) (fun kx si sj sh wr => ∃ (i j : Nat), si = .int .i64 i ∧ sj = .int .i64 j ∧ a ≤ i ∧ i ≤ j ∧ j ≤ m ∧ j - i ≤ kx ∧ Aside (SW enc w0 blk off d wr) ∧ Hid (i = a ∨ tl (ltOf cf) idx d[m]! d[i - 1]! = false) ∧ Hid (j = m ∨ tl (ltOf cf) idx d[m]! d[j]! = true))
 case atStart => exact ⟨a, m, rfl, rfl, by omega, by omega, by omega, by omega, S0, Lib.hid (.inl rfl), Lib.hid (.inl rfl)⟩
 case round =>
  clear S0
  obtain ⟨i, j, rfl, rfl, hi1, hij, hjb, hkx, S1, H1, H2⟩ := hrel
  by_cases hlt : i < j
  ·have hltz : (i : Int) < (j : Int) := by omega
   obtain ⟨h, hh⟩ : ∃ h : Nat, ((i : Int) + j) / 2 = h := ⟨(i + j) / 2, by omega⟩
   have hih : i ≤ h := by omega
   have hhj : h < j := by omega
   have htl : Hid (tl (ltOf cf) idx d[m]! d[h]! = ltOf cf d[m]! d[h]!) := Lib.hid (tl_of (HLo.out h m (by omega) (by omega) (by omega) (by omega)))
   cases hv : tl (ltOf cf) idx d[m]! d[h]! with
   | false =>
    have HV := Lib.hid hv
    clear hv
    obtain ⟨iN3, hiN3⟩ : ∃ q, q = m := ⟨_, rfl⟩
    have ei3 : ((m : Int)).toNat = iN3 := by omega
    have pi3 : (0 : Int) ≤ (m : Int) := by omega
    have bi3 : (m : Int) < (d.size : Int) := by omega
    have ri3 : IntKind.i64.wrap ((m : Int)) = (m : Int) := by rw [IntKind.wrap_i64]; omega
    obtain ⟨jN3, hjN3⟩ : ∃ q, q = h := ⟨_, rfl⟩
    have ej3 : ((h : Int)).toNat = jN3 := by omega
    have pj3 : (0 : Int) ≤ (h : Int) := by omega
    have bj3 : (h : Int) < (d.size : Int) := by omega
    have rj3 : IntKind.i64.wrap ((h : Int)) = (h : Int) := by rw [IntKind.wrap_i64]; omega
    obtain ⟨x3, hx3⟩ : ∃ x, x = d[m]! := ⟨_, rfl⟩
    obtain ⟨y3, hy3⟩ : ∃ x, x = d[h]! := ⟨_, rfl⟩
    have l3a := S1.out.cl R (by omega) (m) (by omega)
    have l3b := S1.out.cl R (by omega) (h) (by omega)
    rw [← hx3, ← hiN3] at l3a
    rw [← hy3, ← hjN3] at l3b
    have hc3 := S1.out.cmp HC.out (by omega) x3 y3
    have hv3 : ¬ cf x3 y3 < 0 := by rw [hx3, hy3]; exact of_decide_eq_false (htl.out.symm.trans HV.out)
    have hd3 : decide (cf x3 y3 < 0) = false := decide_eq_false hv3
    clear hx3 hy3 hiN3 hjN3
    go_wp2_with fail
    go_quiet_grown (first | (go_at_fn g; refine Calls.grown_of (hc3 _ _)))
    have S2 : Aside (SW enc w0 blk off d (grow (wr.drewN nq) osq)) := S1.out.grown nq osq
    clear l3a l3b hc3 S1
    generalize grow (wr.drewN nq) osq = w2 at S2 ⊢
    clear nq osq
    clear ei3 ej3 hv3 hd3 pi3 bi3 ri3 pj3 bj3 rj3
    go_wp2_with fail
    go_roundg (j - (h + 1))
    case measure => omega
    case rel => exact ⟨h + 1, j, by go_num, rfl, by omega, by omega, by omega, by omega, S2, Lib.hid (.inr HV.out), H2⟩
   | true =>
    have HV := Lib.hid hv
    clear hv
    obtain ⟨iN4, hiN4⟩ : ∃ q, q = m := ⟨_, rfl⟩
    have ei4 : ((m : Int)).toNat = iN4 := by omega
    have pi4 : (0 : Int) ≤ (m : Int) := by omega
    have bi4 : (m : Int) < (d.size : Int) := by omega
    have ri4 : IntKind.i64.wrap ((m : Int)) = (m : Int) := by rw [IntKind.wrap_i64]; omega
    obtain ⟨jN4, hjN4⟩ : ∃ q, q = h := ⟨_, rfl⟩
    have ej4 : ((h : Int)).toNat = jN4 := by omega
    have pj4 : (0 : Int) ≤ (h : Int) := by omega
    have bj4 : (h : Int) < (d.size : Int) := by omega
    have rj4 : IntKind.i64.wrap ((h : Int)) = (h : Int) := by rw [IntKind.wrap_i64]; omega
    obtain ⟨x4, hx4⟩ : ∃ x, x = d[m]! := ⟨_, rfl⟩
    obtain ⟨y4, hy4⟩ : ∃ x, x = d[h]! := ⟨_, rfl⟩
    have l4a := S1.out.cl R (by omega) (m) (by omega)
    have l4b := S1.out.cl R (by omega) (h) (by omega)
    rw [← hx4, ← hiN4] at l4a
    rw [← hy4, ← hjN4] at l4b
    have hc4 := S1.out.cmp HC.out (by omega) x4 y4
    have hv4 : cf x4 y4 < 0 := by rw [hx4, hy4]; exact of_decide_eq_true (htl.out.symm.trans HV.out)
    have hd4 : decide (cf x4 y4 < 0) = true := decide_eq_true hv4
    clear hx4 hy4 hiN4 hjN4
    go_wp2_with fail
    go_quiet_grown (first | (go_at_fn g; refine Calls.grown_of (hc4 _ _)))
    have S2 : Aside (SW enc w0 blk off d (grow (wr.drewN nq) osq)) := S1.out.grown nq osq
    clear l4a l4b hc4 S1
    generalize grow (wr.drewN nq) osq = w2 at S2 ⊢
    clear nq osq
    clear ei4 ej4 hv4 hd4 pi4 bi4 ri4 pj4 bj4 rj4
    go_wp2_with fail
    go_roundg (h - i)
    case measure => omega
    case rel => exact ⟨i, h, rfl, rfl, by omega, by omega, by omega, by omega, S2, H1, Lib.hid (.inr HV.out)⟩
  ·obtain rfl : i = j := by omega
   have hii : decide ((i : Int) < (i : Int)) = false := by simp
   go_wp2_with fail
   have S5 : Aside (SW enc w0 blk off d wr) := S1
   clear S1
   go_loopg [17] (m - i) (fun kx sk wr => ∃ (k : Nat) (dk : Array α), sk = .int .i64 k ∧ i ≤ k ∧ k ≤ m ∧ k - i ≤ kx ∧ dk.size = d.size ∧ Aside (SW enc w0 blk off dk wr) ∧ Hid (movedDown d dk k m) ∧ Hid (PermIn a b d dk))
   case atStart => exact ⟨m, d, rfl, by omega, by omega, by omega, rfl, S5, Lib.hid (movedDown.refl d m), Lib.hid (permIn_refl d a b)⟩
   case round =>
    clear S5
    obtain ⟨k, dk, rfl, hk1, hk2, hkx, hds, S1, HM, HP⟩ := hrel
    by_cases hlt2 : i < k
    ·have hltz : (i : Int) < (k : Int) := by omega
     obtain ⟨kp, hkp⟩ : ∃ q : Nat, (k : Int) - 1 = q := ⟨k - 1, by omega⟩
     have hkp1 : Hid (k = kp + 1) := Lib.hid (by omega)
     obtain ⟨iN6, hiN6⟩ : ∃ q, q = k := ⟨_, rfl⟩
     have ei6 : ((k : Int)).toNat = iN6 := by omega
     have pi6 : (0 : Int) ≤ (k : Int) := by omega
     have bi6 : (k : Int) < (d.size : Int) := by omega
     have ri6 : IntKind.i64.wrap ((k : Int)) = (k : Int) := by rw [IntKind.wrap_i64]; omega
     obtain ⟨jN6, hjN6⟩ : ∃ q, q = kp := ⟨_, rfl⟩
     have ej6 : ((kp : Int)).toNat = jN6 := by omega
     have pj6 : (0 : Int) ≤ (kp : Int) := by omega
     have bj6 : (kp : Int) < (d.size : Int) := by omega
     have rj6 : IntKind.i64.wrap ((kp : Int)) = (kp : Int) := by rw [IntKind.wrap_i64]; omega
     obtain ⟨x6, hx6⟩ : ∃ x, x = dk[k]! := ⟨_, rfl⟩
     obtain ⟨y6, hy6⟩ : ∃ x, x = dk[kp]! := ⟨_, rfl⟩
     have S2 : Aside (SW enc w0 blk off (swp dk (k) (kp)) ((wr.setCell ⟨blk, off + iN6, none⟩ (enc y6)).setCell ⟨blk, off + jN6, none⟩ (enc x6)).drew) := by rw [hiN6, hjN6, hx6, hy6]; exact S1.out.swapped R (k) (kp) (by omega) (by omega)
     have c6a := S1.out.c1 R (by omega) (k) (by omega)
     have c6b := S1.out.c1 R (by omega) (kp) (by omega)
     have f6a := S1.out.f1 R (by omega) (k) (by omega)
     have f6b := S1.out.f1 R (by omega) (kp) (by omega)
     obtain ⟨u6, c6c⟩ := S1.out.c2 R (by omega) (k) (kp) (by omega) (by omega) (enc y6)
     rw [← hjN6, ← hiN6] at c6c
     rw [← hx6, ← hiN6] at c6a
     rw [← hy6, ← hjN6] at c6b
     rw [← hiN6] at f6a
     rw [← hjN6] at f6b
     clear S1 hx6 hy6 hiN6 hjN6
     go_wp2_with fail
     go_region
     clear c6a c6b c6c f6a f6b
     generalize ((wr.setCell ⟨blk, off + iN6, none⟩ (enc y6)).setCell ⟨blk, off + jN6, none⟩ (enc x6)).drew = w2 at S2 ⊢
     clear ei6 ej6 pi6 bi6 ri6 pj6 bj6 rj6
     go_wp2_with fail
     go_roundg (kp - i)
     case measure => omega
     case rel => exact ⟨kp, swp dk k kp, by go_num, by omega, by omega, by omega, by rw [size_swp]; exact hds, S2, Lib.hid (by rw [hkp1.out]; exact (show movedDown d dk (kp + 1) m by rw [← hkp1.out]; exact HM.out).next (by omega) hds (by omega)), Lib.hid (permIn_trans _ _ _ _ _ HP.out (swp_permIn _ _ _ _ _ (by omega) (by omega) (by omega) (by omega) (by omega)))⟩
    ·have hltz : ¬ (i : Int) < (k : Int) := by omega
     have hki : Hid (k = i) := Lib.hid (by omega)
     go_wp2_with fail
     refine bodyPost_ret (results_none rfl _ _ _) rfl ?_
     refine ⟨rfl, dk, S1.out, HP.out, ?_⟩
     rw [HAM.out]
     exact mrg_down (tl_swo HSW.out) (i := i) (by omega) (by omega) HR.out H1.out H2.out (by rw [← hki.out]; exact HM.out)
variable {α : Type} [Inhabited α] {enc : α → Value} {w0 : World} {blk off : Nat} {d0 : Array α}
def MrgOk (enc : α → Value) (w0 : World) (blk off : Nat) (T : α → α → Bool) (g : Nat) (cb : Array Value) (cap a m b : Nat) (d : Array α) (w : World) : Prop :=
 Calls Try.prog 52 #[.slice (some ⟨blk, off, none⟩) d.size cap, .int .i64 a, .int .i64 m, .int .i64 b, .func (.func g) #[] cb] w fun e w' => e = .returned (.tuple #[]) ∧ ∃ d' : Array α, SW enc w0 blk off d' w' ∧ PermIn a b d d' ∧ SortedIn T a b d'
theorem sorted_keep {T : α → α → Bool} {a t p q : Nat} {d d' : Array α} (h : PermIn a t d d') (hp : t ≤ p) (hs : SortedIn T p q d) : SortedIn T p q d' := fun i j h1 h2 h3 => by rw [h.2.1 i (.inr (by omega)), h.2.1 j (.inr (by omega))]; exact hs i j h1 h2 h3
theorem low_keep {idx : α → Nat} {a t p q r : Nat} {d d' : Array α} (h : PermIn a t d d') (hp : t ≤ p) (_hpq : p ≤ q) (hs : lowIn idx p q r d) : lowIn idx p q r d' := fun i j h1 h2 h3 h4 => by rw [h.2.1 i (.inr (by omega)), h.2.1 j (.inr (by omega))]; exact hs i j h1 h2 h3 h4
set_option maxHeartbeats 8000000 in
set_option maxRecDepth 100000 in
theorem st_mergeC1 (R : Row1 enc w0 blk off d0) (cf : α → α → Int) (hS : SWO (ltOf cf)) (idx : α → Nat) (g : Nat) (cb : Array Value) (eg : ∀ args w, (callFunc g args).run Try.prog w = .ok (.enter g args) w) (hcmp : CmpLays1 Try.prog g cb enc cf blk off d0.size w0) (cap a m b mid : Nat) (d : Array α) (w : World)
  (ih : ∀ (a2 m2 b2 : Nat) (d2 : Array α) (w2 : World), b2 - a2 < b - a → d0.size = d2.size → SW enc w0 blk off d2 w2 → a2 < m2 → m2 < b2 → b2 ≤ d2.size → SortedIn (tl (ltOf cf) idx) a2 m2 d2 → SortedIn (tl (ltOf cf) idx) m2 b2 d2 → lowIn idx a2 m2 b2 d2 → MrgOk enc w0 blk off (tl (ltOf cf) idx) g cb cap a2 m2 b2 d2 w2)
  (hs : d0.size = d.size) (S : SW enc w0 blk off d w) (ham : a + 1 < m) (hmb : m + 1 < b) (hb : b ≤ d.size) (hsz : d.size < 4611686018427387904) (hl : SortedIn (tl (ltOf cf) idx) a m d) (hr : SortedIn (tl (ltOf cf) idx) m b d) (hL : lowIn idx a m b d) (hmid : ((a : Int) + b) / 2 = mid) (hcase : mid < m) :
  MrgOk enc w0 blk off (tl (ltOf cf) idx) g cb cap a m b d w := by
 unfold MrgOk at *
 have hcl0 := R.hO.cells
 simp only [Value.cells] at hcl0
 have hst := R.hO.store Try.prog
 have mixed : Try.prog.follows .mixedOrders = true := by kernel_rfl
 have S0 : Aside (SW enc w0 blk off d w) := S
 have HC : Aside _ := hcmp
 have HR := Lib.hid hr
 have HLf := Lib.hid hl
 have HLo := Lib.hid hL
 have HSW := Lib.hid hS
 have HIH := Lib.hid ih
 clear S hcmp hr hL hS hl ih
 have hone1 : ((m : Int) - a == 1) = false := by simp; omega
 have hone2 : ((b : Int) - m == 1) = false := by simp; omega
 have mid1 : a < mid := by omega
 have mid2 : mid < b := by omega
 obtain ⟨nn, hnn⟩ : ∃ nn : Nat, (mid : Int) + m = nn := ⟨mid + m, by omega⟩
 obtain ⟨p, hp⟩ : ∃ p : Nat, (nn : Int) - 1 = p := ⟨nn - 1, by omega⟩
 obtain ⟨lo, hlo⟩ : ∃ lo : Nat, (nn : Int) - b = lo := ⟨nn - b, by omega⟩
 obtain ⟨hi, hhi⟩ : ∃ hi : Nat, (mid : Nat) = hi := ⟨_, rfl⟩
 have HHI := Lib.hid hhi
 have HLO := Lib.hid hlo
 have k1 : a ≤ lo := by omega
 have k2 : lo ≤ hi := by omega
 have k3 : hi ≤ m := by omega
 have k4 : hi ≤ mid := by omega
 have k5 : nn ≤ b + lo := by omega
 have hmz : (mid : Int) < (m : Int) := by omega
 clear hhi hcase
 go_enter Try.func52, Try.ntmps52
 go_wp2_with fail
 go_loopg [20, 21, 23] (hi - lo) (fun kx si sj sh wr => ∃ (i j : Nat), si = .int .i64 i ∧ sj = .int .i64 j ∧ lo ≤ i ∧ i ≤ j ∧ j ≤ hi ∧ j - i ≤ kx ∧ Aside (SW enc w0 blk off d wr) ∧ Hid (i = lo ∨ tl (ltOf cf) idx d[nn - i]! d[i - 1]! = false) ∧ Hid (j = hi ∨ tl (ltOf cf) idx d[nn - j - 1]! d[j]! = true))
 case atStart => exact ⟨lo, hi, rfl, by rw [HHI.out], by omega, by omega, by omega, by omega, S0, Lib.hid (.inl rfl), Lib.hid (.inl rfl)⟩
 case round =>
  clear S0
  obtain ⟨i, j, rfl, rfl, hi1, hij, hjb, hkx, S1, H1, H2⟩ := hrel
  by_cases hlt : i < j
  ·have hltz : (i : Int) < (j : Int) := by omega
   obtain ⟨c, hc⟩ : ∃ c : Nat, ((i : Int) + j) / 2 = c := ⟨(i + j) / 2, by omega⟩
   have hih : i ≤ c := by omega
   have hhj : c < j := by omega
   obtain ⟨q, hq⟩ : ∃ q : Nat, (p : Int) - c = q := ⟨p - c, by omega⟩
   have hq1 : m ≤ q := by omega
   have hq2 : q < b := by omega
   have hq3 : Hid (nn - (c + 1) = q) := Lib.hid (by omega)
   have hq4 : Hid (nn - c - 1 = q) := Lib.hid (by omega)
   have htl : Hid (tl (ltOf cf) idx d[q]! d[c]! = ltOf cf d[q]! d[c]!) := Lib.hid (tl_of (HLo.out c q (by omega) (by omega) (by omega) (by omega)))
   cases hv : tl (ltOf cf) idx d[q]! d[c]! with
   | false =>
    have HV := Lib.hid hv
    clear hv
    obtain ⟨iN1, hiN1⟩ : ∃ z9, z9 = q := ⟨_, rfl⟩
    have ei1 : ((q : Int)).toNat = iN1 := by omega
    have pi1 : (0 : Int) ≤ (q : Int) := by omega
    have bi1 : (q : Int) < (d.size : Int) := by omega
    have ri1 : IntKind.i64.wrap ((q : Int)) = (q : Int) := by rw [IntKind.wrap_i64]; omega
    obtain ⟨jN1, hjN1⟩ : ∃ z9, z9 = c := ⟨_, rfl⟩
    have ej1 : ((c : Int)).toNat = jN1 := by omega
    have pj1 : (0 : Int) ≤ (c : Int) := by omega
    have bj1 : (c : Int) < (d.size : Int) := by omega
    have rj1 : IntKind.i64.wrap ((c : Int)) = (c : Int) := by rw [IntKind.wrap_i64]; omega
    obtain ⟨x1, hx1⟩ : ∃ z9, z9 = d[q]! := ⟨_, rfl⟩
    obtain ⟨y1, hy1⟩ : ∃ z9, z9 = d[c]! := ⟨_, rfl⟩
    have l1a := S1.out.cl R (by omega) (q) (by omega)
    have l1b := S1.out.cl R (by omega) (c) (by omega)
    rw [← hx1, ← hiN1] at l1a
    rw [← hy1, ← hjN1] at l1b
    have hc1 := S1.out.cmp HC.out (by omega) x1 y1
    have hv1 : ¬ cf x1 y1 < 0 := by rw [hx1, hy1]; exact of_decide_eq_false (htl.out.symm.trans HV.out)
    have hd1 : decide (cf x1 y1 < 0) = false := decide_eq_false hv1
    clear hx1 hy1 hiN1 hjN1
    go_wp2_with fail
    go_quiet_grown (first | (go_at_fn g; refine Calls.grown_of (hc1 _ _)))
    have S2 : Aside (SW enc w0 blk off d (grow (wr.drewN nq) osq)) := S1.out.grown nq osq
    clear l1a l1b hc1 S1
    generalize grow (wr.drewN nq) osq = w2 at S2 ⊢
    clear nq osq
    clear ei1 ej1 hv1 hd1 pi1 bi1 ri1 pj1 bj1 rj1
    go_wp2_with fail
    go_roundg (j - (c + 1))
    case measure => omega
    case rel => exact ⟨c + 1, j, by go_num, rfl, by omega, by omega, by omega, by omega, S2, Lib.hid (.inr (by rw [hq3.out]; exact HV.out)), H2⟩
   | true =>
    have HV := Lib.hid hv
    clear hv
    obtain ⟨iN2, hiN2⟩ : ∃ z9, z9 = q := ⟨_, rfl⟩
    have ei2 : ((q : Int)).toNat = iN2 := by omega
    have pi2 : (0 : Int) ≤ (q : Int) := by omega
    have bi2 : (q : Int) < (d.size : Int) := by omega
    have ri2 : IntKind.i64.wrap ((q : Int)) = (q : Int) := by rw [IntKind.wrap_i64]; omega
    obtain ⟨jN2, hjN2⟩ : ∃ z9, z9 = c := ⟨_, rfl⟩
    have ej2 : ((c : Int)).toNat = jN2 := by omega
    have pj2 : (0 : Int) ≤ (c : Int) := by omega
    have bj2 : (c : Int) < (d.size : Int) := by omega
    have rj2 : IntKind.i64.wrap ((c : Int)) = (c : Int) := by rw [IntKind.wrap_i64]; omega
    obtain ⟨x2, hx2⟩ : ∃ z9, z9 = d[q]! := ⟨_, rfl⟩
    obtain ⟨y2, hy2⟩ : ∃ z9, z9 = d[c]! := ⟨_, rfl⟩
    have l2a := S1.out.cl R (by omega) (q) (by omega)
    have l2b := S1.out.cl R (by omega) (c) (by omega)
    rw [← hx2, ← hiN2] at l2a
    rw [← hy2, ← hjN2] at l2b
    have hc2 := S1.out.cmp HC.out (by omega) x2 y2
    have hv2 : cf x2 y2 < 0 := by rw [hx2, hy2]; exact of_decide_eq_true (htl.out.symm.trans HV.out)
    have hd2 : decide (cf x2 y2 < 0) = true := decide_eq_true hv2
    clear hx2 hy2 hiN2 hjN2
    go_wp2_with fail
    go_quiet_grown (first | (go_at_fn g; refine Calls.grown_of (hc2 _ _)))
    have S2 : Aside (SW enc w0 blk off d (grow (wr.drewN nq) osq)) := S1.out.grown nq osq
    clear l2a l2b hc2 S1
    generalize grow (wr.drewN nq) osq = w2 at S2 ⊢
    clear nq osq
    clear ei2 ej2 hv2 hd2 pi2 bi2 ri2 pj2 bj2 rj2
    go_wp2_with fail
    go_roundg (c - i)
    case measure => omega
    case rel => exact ⟨i, c, rfl, rfl, by omega, by omega, by omega, by omega, S2, H1, Lib.hid (.inr (by rw [hq4.out]; exact HV.out))⟩
  ·obtain rfl : i = j := by omega
   have hii : decide ((i : Int) < (i : Int)) = false := by simp
   obtain ⟨e, he⟩ : ∃ e : Nat, (nn : Int) - i = e := ⟨nn - i, by omega⟩
   have e1 : m ≤ e := by omega
   have e2 : e ≤ b := by omega
   have e3 : i ≤ m := by omega
   have e4 : Hid (mid = i + (e - m)) := Lib.hid (by omega)
   have e5 : Hid (nn - i = e) := Lib.hid (by omega)
   have HX : Hid (i = a ∨ e = b ∨ tl (ltOf cf) idx d[e]! d[i - 1]! = false) := Lib.hid (by
    rcases H1.out with h | h
    ·have := HLO.out; right; left; omega
    ·rw [e5.out] at h; exact .inr (.inr h))
   have HY : Hid (i = m ∨ e = m ∨ tl (ltOf cf) idx d[e - 1]! d[i]! = true) := Lib.hid (by
    rcases H2.out with h | h
    ·have := HHI.out; right; left; omega
    ·rw [e5.out] at h; exact .inr (.inr h))
   clear H1 H2
   go_upto_region 39 with fail
   go_cut [185] from 178 to 185 (fun c wx => c = .bool (decide (i < m ∧ m < e)) ∧ Aside (SW enc w0 blk off d wx))
   case first =>
    by_cases c1 : i < m
    ·have c1z : (i : Int) < (m : Int) := by omega
     by_cases c2 : m < e
     ·have c2z : (m : Int) < (e : Int) := by omega
      go_wp2_with fail
      go_meet
      exact ⟨congrArg Value.bool (decide_eq_true (p := i < m ∧ m < e) (by omega)).symm, S1⟩
     ·have c2z : decide ((m : Int) < (e : Int)) = false := decide_eq_false (by omega)
      go_wp2_with fail
      go_meet
      exact ⟨congrArg Value.bool (decide_eq_false (p := i < m ∧ m < e) (by omega)).symm, S1⟩
    ·have c1z : decide ((i : Int) < (m : Int)) = false := decide_eq_false (by omega)
     go_wp2_with fail
     go_meet
     exact ⟨congrArg Value.bool (decide_eq_false (p := i < m ∧ m < e) (by omega)).symm, S1⟩
   case rest =>
   clear S1
   obtain ⟨rfl, S1⟩ := hcut
   go_upto_if 185 with fail
   go_cut [] from 185 to 191 (fun wx => ∃ d1 : Array α, Aside (SW enc w0 blk off d1 wx) ∧ Hid (rotated d d1 i m e) ∧ Hid (PermIn a b d d1))
   case first =>
    by_cases c1 : i < m ∧ m < e
    ·have c1z : decide (i < m ∧ m < e) = true := decide_eq_true c1
     have hrot := st_rotate R g cb cap a b i m e d _ hs S1.out c1.1 c1.2 (by omega) (by omega) (by omega) hsz
     have HROT := Lib.hid hrot
     clear hrot
     go_wp2_with (go_at_call 53; refine HROT.out.mono ?_; rintro ex w' ⟨rfl, d1, S5, hro, hpe⟩)
     go_meet
     exact ⟨d1, S5, Lib.hid hro, Lib.hid hpe⟩
    ·have c1z : decide (i < m ∧ m < e) = false := decide_eq_false c1
     go_wp2_with fail
     go_meet
     exact ⟨d, S1, Lib.hid (rotated.none (by omega) (by omega) (by omega)), Lib.hid (permIn_refl _ _ _)⟩
   case rest =>
   clear S1
   obtain ⟨d1, S1, HRO, HP1⟩ := hcut
   have hd1 : d1.size = d.size := HP1.out.1
   obtain ⟨q1, q2, q3, q4, hcr⟩ := rot_parts (tl_swo HSW.out) e4.out (by omega) (by omega) (by omega) (by omega) HLf.out HR.out HRO.out HX.out HY.out
   obtain ⟨l1, l2⟩ := rot_low e4.out (by omega) (by omega) (by omega) (by omega) HLo.out HRO.out
   have Q1 := Lib.hid q1
   have Q2 := Lib.hid q2
   have Q3 := Lib.hid q3
   have Q4 := Lib.hid q4
   have HCR := Lib.hid hcr
   have L1 := Lib.hid l1
   have L2 := Lib.hid l2
   have e6 : i ≤ mid := by have := e4.out; omega
   have e7 : mid ≤ e := by have := e4.out; omega
   clear q1 q2 q3 q4 hcr l1 l2 HX HY
   go_upto_region 41 with fail
   go_cut [199] from 192 to 199 (fun c wx => c = .bool (decide (a < i ∧ i < mid)) ∧ Aside (SW enc w0 blk off d1 wx))
   case first =>
    by_cases c1 : a < i
    ·have c1z : (a : Int) < (i : Int) := by omega
     by_cases c2 : i < mid
     ·have c2z : (i : Int) < (mid : Int) := by omega
      go_wp2_with fail
      go_meet
      exact ⟨congrArg Value.bool (decide_eq_true (p := a < i ∧ i < mid) (by omega)).symm, S1⟩
     ·have c2z : decide ((i : Int) < (mid : Int)) = false := decide_eq_false (by omega)
      go_wp2_with fail
      go_meet
      exact ⟨congrArg Value.bool (decide_eq_false (p := a < i ∧ i < mid) (by omega)).symm, S1⟩
    ·have c1z : decide ((a : Int) < (i : Int)) = false := decide_eq_false (by omega)
     go_wp2_with fail
     go_meet
     exact ⟨congrArg Value.bool (decide_eq_false (p := a < i ∧ i < mid) (by omega)).symm, S1⟩
   case rest =>
   clear S1
   obtain ⟨rfl, S1⟩ := hcut
   go_upto_if 199 with fail
   go_cut [] from 199 to 205 (fun wx => ∃ d2 : Array α, Aside (SW enc w0 blk off d2 wx) ∧ Hid (PermIn a mid d1 d2) ∧ Hid (SortedIn (tl (ltOf cf) idx) a mid d2))
   case first =>
    by_cases c1 : a < i ∧ i < mid
    ·have c1z : decide (a < i ∧ i < mid) = true := decide_eq_true c1
     have hrot := HIH.out a i mid d1 _ (by omega) (by omega) S1.out (by omega) (by omega) (by omega) Q1.out Q2.out L1.out
     rw [hd1] at hrot
     have HROT := Lib.hid hrot
     clear hrot
     go_wp2_with (go_at_call 52; refine HROT.out.mono ?_; rintro ex w' ⟨rfl, d2, S5, hpe, hso⟩)
     go_meet
     exact ⟨d2, S5, Lib.hid hpe, Lib.hid hso⟩
    ·have c1z : decide (a < i ∧ i < mid) = false := decide_eq_false c1
     go_wp2_with fail
     go_meet
     refine ⟨d1, S1, Lib.hid (permIn_refl _ _ _), Lib.hid ?_⟩
     by_cases c2 : i = a
     ·rw [← c2]; exact Q2.out
     ·rw [show mid = i by omega]; exact Q1.out
   case rest =>
   clear S1
   obtain ⟨d2, S1, HP2, HQ⟩ := hcut
   have hd2 : d2.size = d1.size := HP2.out.1
   have hd3 : d2.size = d.size := by omega
   replace Q3 := Lib.hid (sorted_keep HP2.out (by omega) Q3.out)
   replace Q4 := Lib.hid (sorted_keep HP2.out (by omega) Q4.out)
   replace L2 := Lib.hid (low_keep HP2.out (by omega) (by omega) L2.out)
   go_upto_region 43 with fail
   go_cut [213] from 206 to 213 (fun c wx => c = .bool (decide (mid < e ∧ e < b)) ∧ Aside (SW enc w0 blk off d2 wx))
   case first =>
    by_cases c1 : mid < e
    ·have c1z : (mid : Int) < (e : Int) := by omega
     by_cases c2 : e < b
     ·have c2z : (e : Int) < (b : Int) := by omega
      go_wp2_with fail
      go_meet
      exact ⟨congrArg Value.bool (decide_eq_true (p := mid < e ∧ e < b) (by omega)).symm, S1⟩
     ·have c2z : decide ((e : Int) < (b : Int)) = false := decide_eq_false (by omega)
      go_wp2_with fail
      go_meet
      exact ⟨congrArg Value.bool (decide_eq_false (p := mid < e ∧ e < b) (by omega)).symm, S1⟩
    ·have c1z : decide ((mid : Int) < (e : Int)) = false := decide_eq_false (by omega)
     go_wp2_with fail
     go_meet
     exact ⟨congrArg Value.bool (decide_eq_false (p := mid < e ∧ e < b) (by omega)).symm, S1⟩
   case rest =>
   clear S1
   obtain ⟨rfl, S1⟩ := hcut
   have HPP : ∀ d3 : Array α, PermIn mid b d2 d3 → SortedIn (tl (ltOf cf) idx) mid b d3 → PermIn a b d d3 ∧ SortedIn (tl (ltOf cf) idx) a b d3 := fun d3 h1 h2 => by
    have h := mrg_join (by omega) (by omega) (by omega) HCR.out HP2.out HQ.out h1 h2
    exact ⟨permIn_trans _ _ _ _ _ HP1.out h.1, h.2⟩
   have HPP2 := Lib.hid HPP
   clear HPP
   by_cases c1 : mid < e ∧ e < b
   ·have c1z : decide (mid < e ∧ e < b) = true := decide_eq_true c1
    have hrot := HIH.out mid e b d2 _ (by omega) (by omega) S1.out (by omega) (by omega) (by omega) Q3.out Q4.out L2.out
    rw [hd3] at hrot
    have HROT := Lib.hid hrot
    clear hrot
    go_wp2_with (go_at_call 52; refine HROT.out.mono ?_; rintro ex w' ⟨rfl, d3, S5, hpe, hso⟩)
    go_end0
    exact ⟨rfl, d3, S5, HPP2.out d3 hpe hso⟩
   ·have c1z : decide (mid < e ∧ e < b) = false := decide_eq_false c1
    have hso : Hid (SortedIn (tl (ltOf cf) idx) mid b d2) := Lib.hid (by
     by_cases c2 : e = mid
     ·rw [← c2]; exact Q4.out
     ·rw [show b = e by omega]; exact Q3.out)
    go_wp2_with fail
    go_end0
    exact ⟨rfl, d2, S1.out, HPP2.out d2 (permIn_refl _ _ _) hso.out⟩
set_option maxHeartbeats 8000000 in
set_option maxRecDepth 100000 in
theorem st_mergeC2 (R : Row1 enc w0 blk off d0) (cf : α → α → Int) (hS : SWO (ltOf cf)) (idx : α → Nat) (g : Nat) (cb : Array Value) (eg : ∀ args w, (callFunc g args).run Try.prog w = .ok (.enter g args) w) (hcmp : CmpLays1 Try.prog g cb enc cf blk off d0.size w0) (cap a m b mid : Nat) (d : Array α) (w : World)
  (ih : ∀ (a2 m2 b2 : Nat) (d2 : Array α) (w2 : World), b2 - a2 < b - a → d0.size = d2.size → SW enc w0 blk off d2 w2 → a2 < m2 → m2 < b2 → b2 ≤ d2.size → SortedIn (tl (ltOf cf) idx) a2 m2 d2 → SortedIn (tl (ltOf cf) idx) m2 b2 d2 → lowIn idx a2 m2 b2 d2 → MrgOk enc w0 blk off (tl (ltOf cf) idx) g cb cap a2 m2 b2 d2 w2)
  (hs : d0.size = d.size) (S : SW enc w0 blk off d w) (ham : a + 1 < m) (hmb : m + 1 < b) (hb : b ≤ d.size) (hsz : d.size < 4611686018427387904) (hl : SortedIn (tl (ltOf cf) idx) a m d) (hr : SortedIn (tl (ltOf cf) idx) m b d) (hL : lowIn idx a m b d) (hmid : ((a : Int) + b) / 2 = mid) (hcase : m ≤ mid) :
  MrgOk enc w0 blk off (tl (ltOf cf) idx) g cb cap a m b d w := by
 unfold MrgOk at *
 have hcl0 := R.hO.cells
 simp only [Value.cells] at hcl0
 have hst := R.hO.store Try.prog
 have mixed : Try.prog.follows .mixedOrders = true := by kernel_rfl
 have S0 : Aside (SW enc w0 blk off d w) := S
 have HC : Aside _ := hcmp
 have HR := Lib.hid hr
 have HLf := Lib.hid hl
 have HLo := Lib.hid hL
 have HSW := Lib.hid hS
 have HIH := Lib.hid ih
 clear S hcmp hr hL hS hl ih
 have hone1 : ((m : Int) - a == 1) = false := by simp; omega
 have hone2 : ((b : Int) - m == 1) = false := by simp; omega
 have mid1 : a < mid := by omega
 have mid2 : mid < b := by omega
 obtain ⟨nn, hnn⟩ : ∃ nn : Nat, (mid : Int) + m = nn := ⟨mid + m, by omega⟩
 obtain ⟨p, hp⟩ : ∃ p : Nat, (nn : Int) - 1 = p := ⟨nn - 1, by omega⟩
 obtain ⟨lo, hlo⟩ : ∃ lo : Nat, a = lo := ⟨a, rfl⟩
 obtain ⟨hi, hhi⟩ : ∃ hi : Nat, (m : Nat) = hi := ⟨_, rfl⟩
 have HHI := Lib.hid hhi
 have HLO := Lib.hid hlo
 have k1 : a ≤ lo := by omega
 have k2 : lo ≤ hi := by omega
 have k3 : hi ≤ m := by omega
 have k4 : hi ≤ mid := by omega
 have k5 : nn ≤ b + lo := by omega
 have hmz : decide ((mid : Int) < (m : Int)) = false := decide_eq_false (by omega)
 have hmz2 : ¬ (mid : Int) < (m : Int) := by omega
 clear hhi hlo hcase
 go_enter Try.func52, Try.ntmps52
 go_wp2_with fail
 go_loopg [20, 21, 23] (hi - lo) (fun kx si sj sh wr => ∃ (i j : Nat), si = .int .i64 i ∧ sj = .int .i64 j ∧ lo ≤ i ∧ i ≤ j ∧ j ≤ hi ∧ j - i ≤ kx ∧ Aside (SW enc w0 blk off d wr) ∧ Hid (i = lo ∨ tl (ltOf cf) idx d[nn - i]! d[i - 1]! = false) ∧ Hid (j = hi ∨ tl (ltOf cf) idx d[nn - j - 1]! d[j]! = true))
 case atStart => exact ⟨lo, hi, by rw [HLO.out], by rw [HHI.out], by omega, by omega, by omega, by omega, S0, Lib.hid (.inl rfl), Lib.hid (.inl rfl)⟩
 case round =>
  clear S0
  obtain ⟨i, j, rfl, rfl, hi1, hij, hjb, hkx, S1, H1, H2⟩ := hrel
  by_cases hlt : i < j
  ·have hltz : (i : Int) < (j : Int) := by omega
   obtain ⟨c, hc⟩ : ∃ c : Nat, ((i : Int) + j) / 2 = c := ⟨(i + j) / 2, by omega⟩
   have hih : i ≤ c := by omega
   have hhj : c < j := by omega
   obtain ⟨q, hq⟩ : ∃ q : Nat, (p : Int) - c = q := ⟨p - c, by omega⟩
   have hq1 : m ≤ q := by omega
   have hq2 : q < b := by omega
   have hq3 : Hid (nn - (c + 1) = q) := Lib.hid (by omega)
   have hq4 : Hid (nn - c - 1 = q) := Lib.hid (by omega)
   have htl : Hid (tl (ltOf cf) idx d[q]! d[c]! = ltOf cf d[q]! d[c]!) := Lib.hid (tl_of (HLo.out c q (by omega) (by omega) (by omega) (by omega)))
   cases hv : tl (ltOf cf) idx d[q]! d[c]! with
   | false =>
    have HV := Lib.hid hv
    clear hv
    obtain ⟨iN1, hiN1⟩ : ∃ z9, z9 = q := ⟨_, rfl⟩
    have ei1 : ((q : Int)).toNat = iN1 := by omega
    have pi1 : (0 : Int) ≤ (q : Int) := by omega
    have bi1 : (q : Int) < (d.size : Int) := by omega
    have ri1 : IntKind.i64.wrap ((q : Int)) = (q : Int) := by rw [IntKind.wrap_i64]; omega
    obtain ⟨jN1, hjN1⟩ : ∃ z9, z9 = c := ⟨_, rfl⟩
    have ej1 : ((c : Int)).toNat = jN1 := by omega
    have pj1 : (0 : Int) ≤ (c : Int) := by omega
    have bj1 : (c : Int) < (d.size : Int) := by omega
    have rj1 : IntKind.i64.wrap ((c : Int)) = (c : Int) := by rw [IntKind.wrap_i64]; omega
    obtain ⟨x1, hx1⟩ : ∃ z9, z9 = d[q]! := ⟨_, rfl⟩
    obtain ⟨y1, hy1⟩ : ∃ z9, z9 = d[c]! := ⟨_, rfl⟩
    have l1a := S1.out.cl R (by omega) (q) (by omega)
    have l1b := S1.out.cl R (by omega) (c) (by omega)
    rw [← hx1, ← hiN1] at l1a
    rw [← hy1, ← hjN1] at l1b
    have hc1 := S1.out.cmp HC.out (by omega) x1 y1
    have hv1 : ¬ cf x1 y1 < 0 := by rw [hx1, hy1]; exact of_decide_eq_false (htl.out.symm.trans HV.out)
    have hd1 : decide (cf x1 y1 < 0) = false := decide_eq_false hv1
    clear hx1 hy1 hiN1 hjN1
    go_wp2_with fail
    go_quiet_grown (first | (go_at_fn g; refine Calls.grown_of (hc1 _ _)))
    have S2 : Aside (SW enc w0 blk off d (grow (wr.drewN nq) osq)) := S1.out.grown nq osq
    clear l1a l1b hc1 S1
    generalize grow (wr.drewN nq) osq = w2 at S2 ⊢
    clear nq osq
    clear ei1 ej1 hv1 hd1 pi1 bi1 ri1 pj1 bj1 rj1
    go_wp2_with fail
    go_roundg (j - (c + 1))
    case measure => omega
    case rel => exact ⟨c + 1, j, by go_num, rfl, by omega, by omega, by omega, by omega, S2, Lib.hid (.inr (by rw [hq3.out]; exact HV.out)), H2⟩
   | true =>
    have HV := Lib.hid hv
    clear hv
    obtain ⟨iN2, hiN2⟩ : ∃ z9, z9 = q := ⟨_, rfl⟩
    have ei2 : ((q : Int)).toNat = iN2 := by omega
    have pi2 : (0 : Int) ≤ (q : Int) := by omega
    have bi2 : (q : Int) < (d.size : Int) := by omega
    have ri2 : IntKind.i64.wrap ((q : Int)) = (q : Int) := by rw [IntKind.wrap_i64]; omega
    obtain ⟨jN2, hjN2⟩ : ∃ z9, z9 = c := ⟨_, rfl⟩
    have ej2 : ((c : Int)).toNat = jN2 := by omega
    have pj2 : (0 : Int) ≤ (c : Int) := by omega
    have bj2 : (c : Int) < (d.size : Int) := by omega
    have rj2 : IntKind.i64.wrap ((c : Int)) = (c : Int) := by rw [IntKind.wrap_i64]; omega
    obtain ⟨x2, hx2⟩ : ∃ z9, z9 = d[q]! := ⟨_, rfl⟩
    obtain ⟨y2, hy2⟩ : ∃ z9, z9 = d[c]! := ⟨_, rfl⟩
    have l2a := S1.out.cl R (by omega) (q) (by omega)
    have l2b := S1.out.cl R (by omega) (c) (by omega)
    rw [← hx2, ← hiN2] at l2a
    rw [← hy2, ← hjN2] at l2b
    have hc2 := S1.out.cmp HC.out (by omega) x2 y2
    have hv2 : cf x2 y2 < 0 := by rw [hx2, hy2]; exact of_decide_eq_true (htl.out.symm.trans HV.out)
    have hd2 : decide (cf x2 y2 < 0) = true := decide_eq_true hv2
    clear hx2 hy2 hiN2 hjN2
    go_wp2_with fail
    go_quiet_grown (first | (go_at_fn g; refine Calls.grown_of (hc2 _ _)))
    have S2 : Aside (SW enc w0 blk off d (grow (wr.drewN nq) osq)) := S1.out.grown nq osq
    clear l2a l2b hc2 S1
    generalize grow (wr.drewN nq) osq = w2 at S2 ⊢
    clear nq osq
    clear ei2 ej2 hv2 hd2 pi2 bi2 ri2 pj2 bj2 rj2
    go_wp2_with fail
    go_roundg (c - i)
    case measure => omega
    case rel => exact ⟨i, c, rfl, rfl, by omega, by omega, by omega, by omega, S2, H1, Lib.hid (.inr (by rw [hq4.out]; exact HV.out))⟩
  ·obtain rfl : i = j := by omega
   have hii : decide ((i : Int) < (i : Int)) = false := by simp
   obtain ⟨e, he⟩ : ∃ e : Nat, (nn : Int) - i = e := ⟨nn - i, by omega⟩
   have e1 : m ≤ e := by omega
   have e2 : e ≤ b := by omega
   have e3 : i ≤ m := by omega
   have e4 : Hid (mid = i + (e - m)) := Lib.hid (by omega)
   have e5 : Hid (nn - i = e) := Lib.hid (by omega)
   have HX : Hid (i = a ∨ e = b ∨ tl (ltOf cf) idx d[e]! d[i - 1]! = false) := Lib.hid (by
    rcases H1.out with h | h
    ·have := HLO.out; left; omega
    ·rw [e5.out] at h; exact .inr (.inr h))
   have HY : Hid (i = m ∨ e = m ∨ tl (ltOf cf) idx d[e - 1]! d[i]! = true) := Lib.hid (by
    rcases H2.out with h | h
    ·have := HHI.out; left; omega
    ·rw [e5.out] at h; exact .inr (.inr h))
   clear H1 H2
   go_upto_region 39 with fail
   go_cut [185] from 178 to 185 (fun c wx => c = .bool (decide (i < m ∧ m < e)) ∧ Aside (SW enc w0 blk off d wx))
   case first =>
    by_cases c1 : i < m
    ·have c1z : (i : Int) < (m : Int) := by omega
     by_cases c2 : m < e
     ·have c2z : (m : Int) < (e : Int) := by omega
      go_wp2_with fail
      go_meet
      exact ⟨congrArg Value.bool (decide_eq_true (p := i < m ∧ m < e) (by omega)).symm, S1⟩
     ·have c2z : decide ((m : Int) < (e : Int)) = false := decide_eq_false (by omega)
      go_wp2_with fail
      go_meet
      exact ⟨congrArg Value.bool (decide_eq_false (p := i < m ∧ m < e) (by omega)).symm, S1⟩
    ·have c1z : decide ((i : Int) < (m : Int)) = false := decide_eq_false (by omega)
     go_wp2_with fail
     go_meet
     exact ⟨congrArg Value.bool (decide_eq_false (p := i < m ∧ m < e) (by omega)).symm, S1⟩
   case rest =>
   clear S1
   obtain ⟨rfl, S1⟩ := hcut
   go_upto_if 185 with fail
   go_cut [] from 185 to 191 (fun wx => ∃ d1 : Array α, Aside (SW enc w0 blk off d1 wx) ∧ Hid (rotated d d1 i m e) ∧ Hid (PermIn a b d d1))
   case first =>
    by_cases c1 : i < m ∧ m < e
    ·have c1z : decide (i < m ∧ m < e) = true := decide_eq_true c1
     have hrot := st_rotate R g cb cap a b i m e d _ hs S1.out c1.1 c1.2 (by omega) (by omega) (by omega) hsz
     have HROT := Lib.hid hrot
     clear hrot
     go_wp2_with (go_at_call 53; refine HROT.out.mono ?_; rintro ex w' ⟨rfl, d1, S5, hro, hpe⟩)
     go_meet
     exact ⟨d1, S5, Lib.hid hro, Lib.hid hpe⟩
    ·have c1z : decide (i < m ∧ m < e) = false := decide_eq_false c1
     go_wp2_with fail
     go_meet
     exact ⟨d, S1, Lib.hid (rotated.none (by omega) (by omega) (by omega)), Lib.hid (permIn_refl _ _ _)⟩
   case rest =>
   clear S1
   obtain ⟨d1, S1, HRO, HP1⟩ := hcut
   have hd1 : d1.size = d.size := HP1.out.1
   obtain ⟨q1, q2, q3, q4, hcr⟩ := rot_parts (tl_swo HSW.out) e4.out (by omega) (by omega) (by omega) (by omega) HLf.out HR.out HRO.out HX.out HY.out
   obtain ⟨l1, l2⟩ := rot_low e4.out (by omega) (by omega) (by omega) (by omega) HLo.out HRO.out
   have Q1 := Lib.hid q1
   have Q2 := Lib.hid q2
   have Q3 := Lib.hid q3
   have Q4 := Lib.hid q4
   have HCR := Lib.hid hcr
   have L1 := Lib.hid l1
   have L2 := Lib.hid l2
   have e6 : i ≤ mid := by have := e4.out; omega
   have e7 : mid ≤ e := by have := e4.out; omega
   clear q1 q2 q3 q4 hcr l1 l2 HX HY
   go_upto_region 41 with fail
   go_cut [199] from 192 to 199 (fun c wx => c = .bool (decide (a < i ∧ i < mid)) ∧ Aside (SW enc w0 blk off d1 wx))
   case first =>
    by_cases c1 : a < i
    ·have c1z : (a : Int) < (i : Int) := by omega
     by_cases c2 : i < mid
     ·have c2z : (i : Int) < (mid : Int) := by omega
      go_wp2_with fail
      go_meet
      exact ⟨congrArg Value.bool (decide_eq_true (p := a < i ∧ i < mid) (by omega)).symm, S1⟩
     ·have c2z : decide ((i : Int) < (mid : Int)) = false := decide_eq_false (by omega)
      go_wp2_with fail
      go_meet
      exact ⟨congrArg Value.bool (decide_eq_false (p := a < i ∧ i < mid) (by omega)).symm, S1⟩
    ·have c1z : decide ((a : Int) < (i : Int)) = false := decide_eq_false (by omega)
     go_wp2_with fail
     go_meet
     exact ⟨congrArg Value.bool (decide_eq_false (p := a < i ∧ i < mid) (by omega)).symm, S1⟩
   case rest =>
   clear S1
   obtain ⟨rfl, S1⟩ := hcut
   go_upto_if 199 with fail
   go_cut [] from 199 to 205 (fun wx => ∃ d2 : Array α, Aside (SW enc w0 blk off d2 wx) ∧ Hid (PermIn a mid d1 d2) ∧ Hid (SortedIn (tl (ltOf cf) idx) a mid d2))
   case first =>
    by_cases c1 : a < i ∧ i < mid
    ·have c1z : decide (a < i ∧ i < mid) = true := decide_eq_true c1
     have hrot := HIH.out a i mid d1 _ (by omega) (by omega) S1.out (by omega) (by omega) (by omega) Q1.out Q2.out L1.out
     rw [hd1] at hrot
     have HROT := Lib.hid hrot
     clear hrot
     go_wp2_with (go_at_call 52; refine HROT.out.mono ?_; rintro ex w' ⟨rfl, d2, S5, hpe, hso⟩)
     go_meet
     exact ⟨d2, S5, Lib.hid hpe, Lib.hid hso⟩
    ·have c1z : decide (a < i ∧ i < mid) = false := decide_eq_false c1
     go_wp2_with fail
     go_meet
     refine ⟨d1, S1, Lib.hid (permIn_refl _ _ _), Lib.hid ?_⟩
     by_cases c2 : i = a
     ·rw [← c2]; exact Q2.out
     ·rw [show mid = i by omega]; exact Q1.out
   case rest =>
   clear S1
   obtain ⟨d2, S1, HP2, HQ⟩ := hcut
   have hd2 : d2.size = d1.size := HP2.out.1
   have hd3 : d2.size = d.size := by omega
   replace Q3 := Lib.hid (sorted_keep HP2.out (by omega) Q3.out)
   replace Q4 := Lib.hid (sorted_keep HP2.out (by omega) Q4.out)
   replace L2 := Lib.hid (low_keep HP2.out (by omega) (by omega) L2.out)
   go_upto_region 43 with fail
   go_cut [213] from 206 to 213 (fun c wx => c = .bool (decide (mid < e ∧ e < b)) ∧ Aside (SW enc w0 blk off d2 wx))
   case first =>
    by_cases c1 : mid < e
    ·have c1z : (mid : Int) < (e : Int) := by omega
     by_cases c2 : e < b
     ·have c2z : (e : Int) < (b : Int) := by omega
      go_wp2_with fail
      go_meet
      exact ⟨congrArg Value.bool (decide_eq_true (p := mid < e ∧ e < b) (by omega)).symm, S1⟩
     ·have c2z : decide ((e : Int) < (b : Int)) = false := decide_eq_false (by omega)
      go_wp2_with fail
      go_meet
      exact ⟨congrArg Value.bool (decide_eq_false (p := mid < e ∧ e < b) (by omega)).symm, S1⟩
    ·have c1z : decide ((mid : Int) < (e : Int)) = false := decide_eq_false (by omega)
     go_wp2_with fail
     go_meet
     exact ⟨congrArg Value.bool (decide_eq_false (p := mid < e ∧ e < b) (by omega)).symm, S1⟩
   case rest =>
   clear S1
   obtain ⟨rfl, S1⟩ := hcut
   have HPP : ∀ d3 : Array α, PermIn mid b d2 d3 → SortedIn (tl (ltOf cf) idx) mid b d3 → PermIn a b d d3 ∧ SortedIn (tl (ltOf cf) idx) a b d3 := fun d3 h1 h2 => by
    have h := mrg_join (by omega) (by omega) (by omega) HCR.out HP2.out HQ.out h1 h2
    exact ⟨permIn_trans _ _ _ _ _ HP1.out h.1, h.2⟩
   have HPP2 := Lib.hid HPP
   clear HPP
   by_cases c1 : mid < e ∧ e < b
   ·have c1z : decide (mid < e ∧ e < b) = true := decide_eq_true c1
    have hrot := HIH.out mid e b d2 _ (by omega) (by omega) S1.out (by omega) (by omega) (by omega) Q3.out Q4.out L2.out
    rw [hd3] at hrot
    have HROT := Lib.hid hrot
    clear hrot
    go_wp2_with (go_at_call 52; refine HROT.out.mono ?_; rintro ex w' ⟨rfl, d3, S5, hpe, hso⟩)
    go_end0
    exact ⟨rfl, d3, S5, HPP2.out d3 hpe hso⟩
   ·have c1z : decide (mid < e ∧ e < b) = false := decide_eq_false c1
    have hso : Hid (SortedIn (tl (ltOf cf) idx) mid b d2) := Lib.hid (by
     by_cases c2 : e = mid
     ·rw [← c2]; exact Q4.out
     ·rw [show b = e by omega]; exact Q3.out)
    go_wp2_with fail
    go_end0
    exact ⟨rfl, d2, S1.out, HPP2.out d2 (permIn_refl _ _ _) hso.out⟩
end Go.Proofs.Ytocojbkhdijjeaa
namespace Go.Proofs
open Go.Shelf
def Try.lays215_ren : Go.Shelf.Ren := ⟨fun | 215 => 50 | n => n, fun | 3 => 3 | 4 => 4 | n => n, fun | n => n⟩
def Try.lays122_ren : Go.Shelf.Ren := ⟨fun | 122 => 46 | 215 => 50 | n => n, fun | 3 => 3 | 4 => 4 | n => n, fun | n => n⟩
theorem Try.lays122 : Go.Proofs.Lays.n122 Try.prog Try.lays122_ren := {
 mixed := by kernel_rfl
 f122 := Try.func46.trans (congrArg some (by kernel_rfl))
 f215 := Try.func50.trans (congrArg some (by kernel_rfl))
 t3 := Try.underlying3
 a3 := Try.isAgg3
 z3 := Try.sizeOf3
 v3 := Try.zeroValue3
 t4 := Try.underlying4
 a4 := Try.isAgg4
 z4 := Try.sizeOf4
 v4 := Try.zeroValue4 }
open Go.RowKit in
theorem Try.cmp_Compare_int (x y : Int) (w : World) :
  Calls Try.prog 46 #[.int .i64 x, .int .i64 y] w fun e w' => e = .returned (.int .i64 (Lib.compareInt x y)) ∧ w' = w := Any.cmp_Compare_int Try.lays122 x y w
def Try.laysSlF20_f51_ren : Go.Shelf.Ren := ⟨fun | 20 => 51 | n => n, fun | 24 => 3 | 22 => 22 | 3 => 3 | 25 => 54 | 4 => 4 | 0 => 0 | n => n, fun | n => n⟩
theorem Try.laysSlF20_f51 : Go.Proofs.SlLaysF.n20 Try.prog Try.laysSlF20_f51_ren := {
 mixed := by kernel_rfl
 f20 := ⟨Try.f51.name, by decide, Try.func51.trans (congrArg some (by kernel_rfl))⟩
 t0 := Try.underlying0
 a0 := Try.isAgg0
 z0 := Try.sizeOf0
 v0 := Try.zeroValue0
 t3 := Try.underlying3
 a3 := Try.isAgg3
 z3 := Try.sizeOf3
 v3 := Try.zeroValue3
 t4 := Try.underlying4
 a4 := Try.isAgg4
 z4 := Try.sizeOf4
 v4 := Try.zeroValue4
 t22 := Try.underlying22
 a22 := Try.isAgg22
 z22 := Try.sizeOf22
 v22 := Try.zeroValue22
 a24 := Try.isAgg3
 z24 := Try.sizeOf3
 t25 := Try.underlying54
 a25 := Try.isAgg54
 z25 := Try.sizeOf54
 v25 := Try.zeroValue54 }
open Go.RowKit Go.Lib Go.Sort in
theorem Try.insertionSortCmpFunc_s {α : Type} [Inhabited α] (enc : α → Value) (cf : α → α → Int) (g : Nat) (cb : Array Value) (blk off cap a b : Nat) (d0 d : Array α) (w0 w : World) (eg : ∀ args w, (callFunc g args).run Try.prog w = .ok (.enter g args) w) (hcmp : CmpLays1 Try.prog g cb enc cf blk off d0.size w0) (R : Row1 enc w0 blk off d0) (hs : d0.size = d.size) (S : SW enc w0 blk off d w) (hab : a ≤ b) (hb : b ≤ d.size) (hsz : d.size < 4611686018427387904) :
  Calls Try.prog 51 #[.slice (some ⟨blk, off, none⟩) d.size cap, .int .i64 a, .int .i64 b, .func (.func g) #[] cb] w fun e w' => e = .returned (.tuple #[]) ∧ SW enc w0 blk off (Sort.insertionSort (ltOf cf) d a b) w' := Any.insertionSortCmpFunc_s Try.laysSlF20_f51 enc cf g cb blk off cap a b d0 d w0 w eg hcmp R hs S hab hb hsz
end Go.Proofs
namespace Go.Proofs.Ytocojbkhdijjeaa
open Go.Shelf Go.RowKit Go.Lib Go.Sort
variable {α : Type} [Inhabited α] {enc : α → Value} {w0 : World} {blk off : Nat} {d0 : Array α}
theorem st_merge (R : Row1 enc w0 blk off d0) (cf : α → α → Int) (hS : SWO (ltOf cf)) (idx : α → Nat) (g : Nat) (cb : Array Value) (eg : ∀ args w, (callFunc g args).run Try.prog w = .ok (.enter g args) w) (hcmp : CmpLays1 Try.prog g cb enc cf blk off d0.size w0) (cap : Nat) (hsz : d0.size < 4611686018427387904) :
  ∀ (N a m b : Nat) (d : Array α) (w : World), b - a ≤ N → d0.size = d.size → SW enc w0 blk off d w → a < m → m < b → b ≤ d.size → SortedIn (tl (ltOf cf) idx) a m d → SortedIn (tl (ltOf cf) idx) m b d → lowIn idx a m b d → MrgOk enc w0 blk off (tl (ltOf cf) idx) g cb cap a m b d w
 | 0, a, m, b, d, w, hN, _, _, h1, h2, _, _, _, _ => by omega
 | N + 1, a, m, b, d, w, hN, hs, S, h1, h2, hb, hl, hr, hL => by
  by_cases c1 : m = a + 1
  ·exact st_mergeA R cf hS idx g cb eg hcmp cap a m b d w hs S c1 h2 hb (by omega) hr hL
  ·by_cases c2 : b = m + 1
   ·exact st_mergeB R cf hS idx g cb eg hcmp cap a m b d w hs S (by omega) c2 hb (by omega) hl hL
   ·have ih := fun (a2 m2 b2 : Nat) (d2 : Array α) (w2 : World) (h : b2 - a2 < b - a) => st_merge R cf hS idx g cb eg hcmp cap hsz N a2 m2 b2 d2 w2 (by omega)
    have hmid : ((a : Int) + b) / 2 = ((a + b) / 2 : Nat) := by omega
    by_cases c3 : (a + b) / 2 < m
    ·exact st_mergeC1 R cf hS idx g cb eg hcmp cap a m b _ d w ih hs S (by omega) (by omega) hb (by omega) hl hr hL hmid c3
    ·exact st_mergeC2 R cf hS idx g cb eg hcmp cap a m b _ d w ih hs S (by omega) (by omega) hb (by omega) hl hr hL hmid (by omega)
theorem blk_le {j i s : Nat} (h : j < i) : j * s + s ≤ i * s := by
 have := Nat.mul_le_mul_right s (show j + 1 ≤ i by omega)
 rw [Nat.succ_mul] at this; exact this
set_option maxHeartbeats 8000000 in
set_option maxRecDepth 100000 in
theorem st_stable (R : Row1 enc w0 blk off d0) (cf : α → α → Int) (hS : SWO (ltOf cf)) (idx : α → Nat) (g : Nat) (cb : Array Value) (eg : ∀ args w, (callFunc g args).run Try.prog w = .ok (.enter g args) w) (hcmp : CmpLays1 Try.prog g cb enc cf blk off d0.size w0) (cap n : Nat) (hn : d0.size = n) (hsz : n < 1000000000) (hid : ∀ p, p < n → idx d0[p]! = p) (w : World) (S : SW enc w0 blk off d0 w) :
  Calls Try.prog 49 #[.slice (some ⟨blk, off, none⟩) n cap, .int .i64 n, .func (.func g) #[] cb] w fun e w' => e = .returned (.tuple #[]) ∧ ∃ d' : Array α, SW enc w0 blk off d' w' ∧ PermIn 0 n d0 d' ∧ SortedIn (tl (ltOf cf) idx) 0 n d' := by
 have hcl0 := R.hO.cells
 simp only [Value.cells] at hcl0
 have hst := R.hO.store Try.prog
 have mixed : Try.prog.follows .mixedOrders = true := by kernel_rfl
 have S0 : Aside (SW enc w0 blk off d0 w) := S
 have hins := fun a b d w h1 h2 h3 h4 => Try.insertionSortCmpFunc_s enc cf g cb blk off cap a b d0 d w0 w eg hcmp R h1 h2 h3 h4
 have hmrg := fun a m b d w => st_merge R cf hS idx g cb eg hcmp cap (by omega) (b - a) a m b d w (Nat.le_refl _)
 unfold MrgOk at hmrg
 have HINS := Lib.hid hins
 have HMRG := Lib.hid hmrg
 have HSW := Lib.hid hS
 have HID := Lib.hid hid
 have HN := Lib.hid hn
 clear S hcmp hS hins hmrg hid hn
 go_enter Try.func49, Try.ntmps49
 go_wp2_with fail
 go_loopg [7, 8] n (fun kx sa sb wr => ∃ (k a b : Nat) (dk : Array α), sa = .int .i64 a ∧ sb = .int .i64 b ∧ Hid (a = k * 20) ∧ b = a + 20 ∧ a ≤ n ∧ n - a ≤ kx ∧ Aside (SW enc w0 blk off dk wr) ∧ Hid (∀ j, j < k → stBlk (tl (ltOf cf) idx) idx 20 n j dk) ∧ Hid (∀ p, a ≤ p → dk[p]! = d0[p]!) ∧ Hid (PermIn 0 n d0 dk))
 case atStart => exact ⟨0, 0, 20, d0, rfl, rfl, Lib.hid (by omega), rfl, by omega, by omega, S0, Lib.hid (fun j h => by omega), Lib.hid (fun p _ => rfl), Lib.hid (permIn_refl _ _ _)⟩
 case round =>
  clear S0
  obtain ⟨k, a, b, dk, rfl, rfl, HA, hb, han, hkx, S1, HB, HT, HP⟩ := hrel
  have hds : Hid (dk.size = n) := Lib.hid (HP.out.1.trans HN.out)
  have HB2 := Lib.hid hb
  have hab : a < b := by omega
  clear hb
  have hmono : ∀ b', b' ≤ n → ∀ p q, a ≤ p → p < q → q < b' → idx dk[p]! < idx dk[q]! := fun b' hb' p q h1 h2 h3 => by
   rw [HT.out p h1, HT.out q (by omega), HID.out p (by omega), HID.out q (by omega)]; exact h2
  by_cases hlt : b ≤ n
  ·have hltz : (b : Int) ≤ (n : Int) := by omega
   have hcon := HINS.out a b dk _ (HN.out.trans hds.out.symm) S1.out (by omega) (by rw [hds.out]; exact hlt) (by rw [hds.out]; omega)
   obtain ⟨hp2, hso⟩ := ins_tl (idx := idx) HSW.out dk a b (by omega) (by rw [hds.out]; exact hlt) (hmono b hlt)
   generalize Sort.insertionSort (ltOf cf) dk a b = d2 at *
   rw [hds.out] at hcon
   have HCON := Lib.hid hcon
   have HP2 := Lib.hid hp2
   have HSO := Lib.hid hso
   clear hcon hp2 hso S1 hmono
   go_wp2_with (go_at_call 51; refine HCON.out.mono ?_; rintro e w' ⟨rfl, S2⟩)
   have S3 : Aside (SW enc w0 blk off d2 w') := S2
   clear S2
   go_roundg (n - b)
   case measure => have := HB2.out; omega
   case rel =>
    have hbb := HB2.out
    refine ⟨k + 1, b, b + 20, d2, rfl, by go_num, Lib.hid ?_, rfl, hlt, Nat.le_refl _, S3, Lib.hid ?_, Lib.hid ?_, Lib.hid ?_⟩
    ·have := HA.out; rw [Nat.succ_mul]; omega
    ·intro j hj
     by_cases c : j = k
     ·subst c
      exact stBlk.ins HA.out (by have := HA.out; omega) (by rw [hds.out]; exact hlt) (fun p h1 h2 => by rw [HT.out p h1, HID.out p (by omega)]) HP2.out HSO.out
     ·exact (HB.out j (by omega)).keep HP2.out (.inl (by have := blk_le (s := 20) (show j < k by omega); have := HA.out; omega))
    ·intro p hp; rw [HP2.out.2.1 p (.inr hp), HT.out p (by omega)]
    ·exact permIn_trans _ _ _ _ _ HP.out (permIn_mono _ _ a b 0 n (by omega) hlt (by rw [hds.out]; exact Nat.le_refl _) HP2.out)
  ·have hltz : ¬ (b : Int) ≤ (n : Int) := by omega
   have hcon := HINS.out a n dk _ (HN.out.trans hds.out.symm) S1.out (by omega) (by rw [hds.out]; exact Nat.le_refl _) (by rw [hds.out]; omega)
   obtain ⟨hp2, hso⟩ := ins_tl (idx := idx) HSW.out dk a n (by omega) (by rw [hds.out]; exact Nat.le_refl _) (hmono n (Nat.le_refl _))
   generalize Sort.insertionSort (ltOf cf) dk a n = d2 at *
   rw [hds.out] at hcon
   have hall : ∀ j, stBlk (tl (ltOf cf) idx) idx 20 n j d2 := fun j => by
    rcases Nat.lt_trichotomy j k with c | c | c
    ·exact (HB.out j c).keep hp2 (.inl (by have := blk_le (s := 20) c; have := HA.out; omega))
    ·subst c
     exact stBlk.ins HA.out (by have := HA.out; have := HB2.out; omega) (by rw [hds.out]; exact Nat.le_refl _) (fun p h1 h2 => by rw [HT.out p h1, HID.out p h2]) hp2 hso
    ·exact stBlk.none (by have := blk_le (s := 20) c; have := HA.out; have := HB2.out; omega)
   have hpp := permIn_trans _ _ _ _ _ HP.out (permIn_mono _ _ a n 0 n (by omega) (Nat.le_refl _) (by rw [hds.out]; exact Nat.le_refl _) hp2)
   have HCON := Lib.hid hcon
   have HALL := Lib.hid hall
   have HPP := Lib.hid hpp
   clear hcon hp2 hso S1 hmono hall hpp HB HT HP
   go_wp2_with (go_at_call 51; refine HCON.out.mono ?_; rintro e w' ⟨rfl, S2⟩)
   have S3 : Aside (SW enc w0 blk off d2 w') := S2
   clear S2
   go_loopg [6, 7, 8, 9] (n + n) (fun kx ss sa sb sm wr => ∃ (s : Nat) (dk : Array α), ss = .int .i64 s ∧ 0 < s ∧ s ≤ n + n + 20 ∧ n + n - s ≤ kx ∧ Aside (SW enc w0 blk off dk wr) ∧ Hid (∀ j, stBlk (tl (ltOf cf) idx) idx s n j dk) ∧ Hid (PermIn 0 n d0 dk))
   case atStart => exact ⟨20, d2, rfl, by omega, by omega, by omega, S3, HALL, HPP⟩
   case round =>
    clear S3 HALL HPP HCON
    obtain ⟨s, dk, rfl, hs0, hs1, hkx, S1, HALL, HP⟩ := hrel
    by_cases hlt : s < n
    ·have hltz2 : (s : Int) < (n : Int) := by omega
     obtain ⟨b0, hb0⟩ : ∃ b0 : Nat, 2 * (s : Int) = b0 := ⟨2 * s, by omega⟩
     have hb0n : b0 = 2 * s := by omega
     have HB0 := Lib.hid hb0n
     clear hb0n
     go_wp2_with fail
     have S4 : Aside (SW enc w0 blk off dk wr) := S1
     clear S1
     go_loopg [7, 8] n (fun kx sa sb wr => ∃ (i a b : Nat) (dk : Array α), sa = .int .i64 a ∧ sb = .int .i64 b ∧ Hid (a = i * (2 * s)) ∧ b = a + b0 ∧ a ≤ n ∧ n - a ≤ kx ∧ Aside (SW enc w0 blk off dk wr) ∧ Hid (∀ j, j < i → stBlk (tl (ltOf cf) idx) idx (2 * s) n j dk) ∧ Hid (∀ j, 2 * i ≤ j → stBlk (tl (ltOf cf) idx) idx s n j dk) ∧ Hid (PermIn 0 n d0 dk))
     case atStart => exact ⟨0, 0, b0, dk, rfl, rfl, Lib.hid (by omega), by omega, by omega, by omega, S4, Lib.hid (fun j h => by omega), Lib.hid (fun j _ => HALL.out j), HP⟩
     case round =>
      clear S4 HALL HP
      obtain ⟨i, a, b, dk, rfl, rfl, HA, hb, han, hkx2, S1, HD, HU, HP⟩ := hrel
      have hds : Hid (dk.size = n) := Lib.hid (HP.out.1.trans HN.out)
      have HB2 := Lib.hid hb
      have hab : a + s < b := by have := HB0.out; omega
      clear hb
      obtain ⟨m, hm⟩ : ∃ m : Nat, (a : Int) + s = m := ⟨a + s, by omega⟩
      have hmn : Hid (m = a + s) := Lib.hid (by omega)
      have ham : a < m := by omega
      have hmb : m < b := by omega
      by_cases hlt2 : b ≤ n
      ·have hltz3 : (b : Int) ≤ (n : Int) := by omega
       obtain ⟨h1, h2, h3⟩ := stBlk.halves (e := b) HA.out (by have := HB0.out; have := HB2.out; omega) hab (HU.out (2 * i) (Nat.le_refl _)) (HU.out (2 * i + 1) (by omega))
       rw [← hmn.out] at h1 h2 h3
       have hcon := HMRG.out a m b dk _ (HN.out.trans hds.out.symm) S1.out ham hmb (by rw [hds.out]; exact hlt2) h1 h2 h3
       rw [hds.out] at hcon
       have HCON := Lib.hid hcon
       clear hcon h1 h2 h3
       go_wp2_with (go_at_call 52; refine HCON.out.mono ?_; rintro e w' ⟨rfl, d2, S2, hp2, hso⟩)
       have S3 : Aside (SW enc w0 blk off d2 w') := S2
       have HP2 := Lib.hid hp2
       have HSO := Lib.hid hso
       clear S2 S1 hp2 hso
       obtain ⟨b2, hb2⟩ : ∃ b2 : Nat, (b : Int) + b0 = b2 := ⟨b + b0, by omega⟩
       go_roundg (n - b)
       case measure => have := HB2.out; omega
       case rel =>
        have hbb := HB2.out
        have hb0' := HB0.out
        refine ⟨i + 1, b, b2, d2, rfl, by first | rfl | go_num | rw [hb2], Lib.hid ?_, by omega, hlt2, Nat.le_refl _, S3, Lib.hid ?_, Lib.hid ?_, Lib.hid ?_⟩
        ·have := HA.out; rw [Nat.succ_mul]; omega
        ·intro j hj
         by_cases c : j = i
         ·subst c
          exact stBlk.whole HA.out (by omega) (by rw [hds.out]; exact hlt2) (HU.out (2 * j) (Nat.le_refl _)) (HU.out (2 * j + 1) (by omega)) HP2.out HSO.out
         ·exact (HD.out j (by omega)).keep HP2.out (.inl (by have := blk_le (s := 2 * s) (show j < i by omega); have := HA.out; omega))
        ·intro j hj
         refine (HU.out j (by omega)).keep HP2.out (.inr ?_)
         have h5 := Nat.mul_le_mul_right s hj
         have h6 := (stBlk_two (i + 1) s).1
         rw [Nat.succ_mul i (2 * s)] at h6
         have := HA.out
         omega
        ·exact permIn_trans _ _ _ _ _ HP.out (permIn_mono _ _ a b 0 n (by omega) hlt2 (by rw [hds.out]; exact Nat.le_refl _) HP2.out)
      ·have hltz3 : ¬ (b : Int) ≤ (n : Int) := by omega
       have hrest : ∀ (d2 : Array α), stBlk (tl (ltOf cf) idx) idx (2 * s) n i d2 → (∀ j, j < i → stBlk (tl (ltOf cf) idx) idx (2 * s) n j d2) → ∀ j, stBlk (tl (ltOf cf) idx) idx (2 * s) n j d2 := fun d2 h1 h2 j => by
        rcases Nat.lt_trichotomy j i with c | c | c
        ·exact h2 j c
        ·rw [c]; exact h1
        ·exact stBlk.none (by have := blk_le (s := 2 * s) c; have := HA.out; have := HB2.out; have := HB0.out; omega)
       have HREST := Lib.hid hrest
       clear hrest
       obtain ⟨s2, hs2⟩ : ∃ s2 : Nat, (s : Int) * 2 = s2 := ⟨s * 2, by omega⟩
       have hs2n : Hid (s2 = 2 * s) := Lib.hid (by omega)
       by_cases hlt4 : m < n
       ·have hltz4 : (m : Int) < (n : Int) := by omega
        obtain ⟨h1, h2, h3⟩ := stBlk.halves (e := n) HA.out (by have := HB0.out; have := HB2.out; omega) (by omega) (HU.out (2 * i) (Nat.le_refl _)) (HU.out (2 * i + 1) (by omega))
        rw [← hmn.out] at h1 h2 h3
        have hcon := HMRG.out a m n dk _ (HN.out.trans hds.out.symm) S1.out ham hlt4 (by rw [hds.out]; exact Nat.le_refl _) h1 h2 h3
        rw [hds.out] at hcon
        have HCON := Lib.hid hcon
        clear hcon h1 h2 h3
        go_wp2_with (go_at_call 52; refine HCON.out.mono ?_; rintro e w' ⟨rfl, d2, S2, hp2, hso⟩)
        have S3 : Aside (SW enc w0 blk off d2 w') := S2
        have HP2 := Lib.hid hp2
        have HSO := Lib.hid hso
        clear S2 S1 hp2 hso
        go_roundg (n + n - s2)
        case measure => have := hs2n.out; omega
        case rel =>
         have hbb := HB2.out
         have hb0' := HB0.out
         have hs2' := hs2n.out
         refine ⟨s2, d2, by first | rfl | go_num | rw [hs2], by omega, by omega, Nat.le_refl _, S3, Lib.hid ?_, Lib.hid ?_⟩
         ·rw [hs2']
          exact HREST.out d2 (stBlk.whole HA.out (by omega) (by rw [hds.out]; exact Nat.le_refl _) (HU.out (2 * i) (Nat.le_refl _)) (HU.out (2 * i + 1) (by omega)) HP2.out HSO.out) fun j hj => (HD.out j hj).keep HP2.out (.inl (by have := blk_le (s := 2 * s) hj; have := HA.out; omega))
         ·exact permIn_trans _ _ _ _ _ HP.out (permIn_mono _ _ a n 0 n (by omega) (Nat.le_refl _) (by rw [hds.out]; exact Nat.le_refl _) HP2.out)
       ·have hltz4 : ¬ (m : Int) < (n : Int) := by omega
        go_wp2_with fail
        have S3 : Aside (SW enc w0 blk off dk wr) := S1
        clear S1
        go_roundg (n + n - s2)
        case measure => have := hs2n.out; omega
        case rel =>
         have hs2' := hs2n.out
         refine ⟨s2, dk, by first | rfl | go_num | rw [hs2], by omega, by omega, Nat.le_refl _, S3, Lib.hid ?_, HP⟩
         rw [hs2']
         exact HREST.out dk (stBlk.half (by have := HA.out; have := hmn.out; omega) (HU.out (2 * i) (Nat.le_refl _))) HD.out
    ·have hltz2 : ¬ (s : Int) < (n : Int) := by omega
     go_wp2_with fail
     go_end0
     exact ⟨rfl, dk, S1.out, HP.out, stBlk.all (by omega) (HALL.out 0)⟩
set_option maxHeartbeats 1000000 in
theorem st_sort (R : Row1 enc w0 blk off d0) (cf : α → α → Int) (hS : SWO (ltOf cf)) (idx : α → Nat) (g : Nat) (cb : Array Value) (eg : ∀ args w, (callFunc g args).run Try.prog w = .ok (.enter g args) w) (hcmp : CmpLays1 Try.prog g cb enc cf blk off d0.size w0) (cap n : Nat) (hn : d0.size = n) (hsz : n < 1000000000) (hid : ∀ p, p < n → idx d0[p]! = p) :
  Calls Try.prog 44 #[.slice (some ⟨blk, off, none⟩) n cap, .func (.func g) #[] cb] w0 fun e w' => e = .returned (.tuple #[]) ∧ ∃ d' : Array α, SW enc w0 blk off d' w' ∧ PermIn 0 n d0 d' ∧ SortedIn (tl (ltOf cf) idx) 0 n d' := by
 have hcon := st_stable R cf hS idx g cb eg hcmp cap n hn hsz hid w0 (SW.start R.hH)
 have HC := Lib.hid hcon
 clear hcon hcmp hS hid
 go_enter Try.func44, Try.ntmps44
 go_wp2_with (go_at_call 49; refine HC.out.mono ?_; rintro e w' ⟨rfl, h⟩)
 go_end0
 exact ⟨rfl, h⟩
open Go.RowKit
structure IB (w : World) (b : Nat) (L : List Int) : Prop where
 blk : ∃ t : TypeId, w.heap[b]? = some (.cells (L.map fun (x : Int) => Value.int .i64 x).toArray t (0, 0))
section
variable {w w' : World} {b : Nat} {L : List Int}
theorem IB.lt (h : IB w b L) : b < w.heap.size := by
 obtain ⟨t, h⟩ := h.blk
 rcases Nat.lt_or_ge b w.heap.size with hlt | hge
 ·exact hlt
 ·rw [Array.getElem?_eq_none hge] at h; cases h
theorem IB.cell (h : IB w b L) (i : Nat) (hi : i < L.length) : w.cell? ⟨b, i, none⟩ = some (.int .i64 (L.getD i 0)) := by
 obtain ⟨t, h⟩ := h.blk
 simp [World.cell?, h, hi]
theorem IB.frozen (h : IB w b L) (i : Nat) : w.frozen? ⟨b, i, none⟩ = false := by
 obtain ⟨t, h⟩ := h.blk
 simp [World.frozen?, h]
theorem IB.set (h : IB w b L) (i : Nat) (x : Int) : IB (w.setCell ⟨b, i, none⟩ (.int .i64 x)) b (L.set i x) := by
 obtain ⟨t, h⟩ := h.blk
 exact ⟨t, by simp [World.setCell, Array.getElem?_modify, h, List.map_set]⟩
theorem IB.far (h : IB w b L) {g : Nat} (hne : b ≠ g) (i : Nat) (v : Value) : IB (w.setCell ⟨g, i, none⟩ v) b L := by
 obtain ⟨t, h⟩ := h.blk
 exact ⟨t, (Below.heap_setCell w ⟨g, i, none⟩ v b hne).trans h⟩
theorem IB.up (h : IB w b L) {B : Nat} (hb : Below B w w') (hlt : b < B) : IB w' b L := by
 obtain ⟨t, h⟩ := h.blk
 exact ⟨t, (hb.block b hlt).trans h⟩
theorem IB.more (h : IB w b L) (hb : Below w.heap.size w w') : IB w' b L := h.up hb h.lt
theorem IB.drew (h : IB w b L) : IB w.drew b L := ⟨h.blk⟩
theorem IB.alloc (h : IB w b L) (o : Obj) : IB (w.alloc o) b L := h.more (below_alloc_new o)
theorem IB.zeros {t : TypeId} {n : Nat} (h : Blk .i64 t w b (List.replicate n 0)) : IB w b (List.replicate n (0 : Int)) := by
 refine ⟨t, ?_⟩
 unfold Blk at h
 rw [h]
 simp
theorem IB.ints (h : IB w b L) : IntsAt .i64 w (some ⟨b, 0, none⟩) L := fun _ => ⟨b, 0, rfl, h.lt, fun i hi => by rw [Nat.zero_add]; exact h.cell i hi⟩
theorem IntsAt.at {A : Option Addr} {zs : List Int} (h : IntsAt .i64 w A zs) (h0 : 0 < zs.length) : ∃ b off, A = some ⟨b, off, none⟩ ∧ b < w.heap.size ∧ ∀ i, i < zs.length → w.cell? ⟨b, off + i, none⟩ = some (.int .i64 (zs.getD i 0)) := h h0
end
end Go.Proofs.Ytocojbkhdijjeaa
