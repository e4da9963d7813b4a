/- Contracts of the functions that the statements reach, part 2: what was proved of each, callees first. -/
import Derived.Laws.Cells
import Derived.Below
import Derived.Lib.ItoaNum
import Derived.Deep.MidRow
import Derived.Deep.RegionHeldLaw
import Derived.Deep.AppendLies
import Derived.WideKeyEntry
import Derived.Maps.OwnSet
import Derived.DeepKeys5
import Derived.Carry
import Derived.BigRegion
import Derived.BigQuiet
import Derived.Test.YtbcphcheomojdaaGreatER1
namespace Go.Proofs.YtbcphcheomojdaaGreat
open Go.RowKit
theorem days_out (y m : Int) (w : World) (h : inYM y m = false) : Calls Tryz.prog 142 #[.int .i64 y, .int .i64 m] w fun e w' => e = .returned (.int .i64 0) ∧ Below w.heap.size w w' := by
 have hx : y < 1900 ∨ ¬ y < 1900 ∧ 2199 < y ∨ ¬ y < 1900 ∧ ¬ 2199 < y ∧ m < 1 ∨ ¬ y < 1900 ∧ ¬ 2199 < y ∧ ¬ m < 1 ∧ 12 < m := by
  have h2 : ¬ (1900 ≤ y ∧ y ≤ 2199 ∧ 1 ≤ m ∧ m ≤ 12) := fun e => by rw [inYM_iff.2 e] at h; cases h
  omega
 clear h
 rcases hx with h1 | ⟨h0, h1⟩ | ⟨h0, h1, h2⟩ | ⟨h0, h1, h2, h3⟩
 ·go_enter Tryz.func142, Tryz.ntmps142
  go_wp2
  go_ret
  exact ⟨rfl, (Below.refl _ _).alloc (Nat.le_refl _) _⟩
 all_goals
  go_enter Tryz.func142, Tryz.ntmps142
  go_wp2
  go_ret
  exact ⟨rfl, (Below.refl _ _).alloc (Nat.le_refl _) _⟩
theorem days_two (y : Int) (w : World) (h0 : 1900 ≤ y) (h1 : y ≤ 2199) : Calls Tryz.prog 142 #[.int .i64 y, .int .i64 2] w fun e w' => e = .returned (.int .i64 (28 + lpI y)) ∧ Below w.heap.size w w' := by
 cases hl : lpB y
 ·have hi := fun w => isLeap_any y w (by omega)
  rw [hl] at hi
  rw [show lpI y = 0 by rw [lpI, hl]; rfl]
  have HI := Lib.hid hi
  clear hi hl
  go_enter Tryz.func142, Tryz.ntmps142
  go_wp2_with (go_at_call 161; refine (HI.out _).mono ?_; rintro e w' ⟨rfl, rfl⟩)
  go_ret
  exact ⟨rfl, (Below.refl _ _).alloc (Nat.le_refl _) _⟩
 ·have hi := fun w => isLeap_any y w (by omega)
  rw [hl] at hi
  rw [show lpI y = 1 by rw [lpI, hl]; rfl]
  have HI := Lib.hid hi
  clear hi hl
  go_enter Tryz.func142, Tryz.ntmps142
  go_wp2_with (go_at_call 161; refine (HI.out _).mono ?_; rintro e w' ⟨rfl, rfl⟩)
  go_ret
  exact ⟨rfl, (Below.refl _ _).alloc (Nat.le_refl _) _⟩
theorem days_1 (y : Int) (w : World) (h0 : 1900 ≤ y) (h1 : y ≤ 2199) : Calls Tryz.prog 142 #[.int .i64 y, .int .i64 1] w fun e w' => e = .returned (.int .i64 31) ∧ Below w.heap.size w w' := by
 go_enter Tryz.func142, Tryz.ntmps142
 go_wp2
 go_ret
 exact ⟨rfl, (Below.refl _ _).alloc (Nat.le_refl _) _⟩
theorem days_3 (y : Int) (w : World) (h0 : 1900 ≤ y) (h1 : y ≤ 2199) : Calls Tryz.prog 142 #[.int .i64 y, .int .i64 3] w fun e w' => e = .returned (.int .i64 31) ∧ Below w.heap.size w w' := by
 go_enter Tryz.func142, Tryz.ntmps142
 go_wp2
 go_ret
 exact ⟨rfl, (Below.refl _ _).alloc (Nat.le_refl _) _⟩
theorem days_4 (y : Int) (w : World) (h0 : 1900 ≤ y) (h1 : y ≤ 2199) : Calls Tryz.prog 142 #[.int .i64 y, .int .i64 4] w fun e w' => e = .returned (.int .i64 30) ∧ Below w.heap.size w w' := by
 go_enter Tryz.func142, Tryz.ntmps142
 go_wp2
 go_ret
 exact ⟨rfl, (Below.refl _ _).alloc (Nat.le_refl _) _⟩
theorem days_5 (y : Int) (w : World) (h0 : 1900 ≤ y) (h1 : y ≤ 2199) : Calls Tryz.prog 142 #[.int .i64 y, .int .i64 5] w fun e w' => e = .returned (.int .i64 31) ∧ Below w.heap.size w w' := by
 go_enter Tryz.func142, Tryz.ntmps142
 go_wp2
 go_ret
 exact ⟨rfl, (Below.refl _ _).alloc (Nat.le_refl _) _⟩
theorem days_6 (y : Int) (w : World) (h0 : 1900 ≤ y) (h1 : y ≤ 2199) : Calls Tryz.prog 142 #[.int .i64 y, .int .i64 6] w fun e w' => e = .returned (.int .i64 30) ∧ Below w.heap.size w w' := by
 go_enter Tryz.func142, Tryz.ntmps142
 go_wp2
 go_ret
 exact ⟨rfl, (Below.refl _ _).alloc (Nat.le_refl _) _⟩
theorem days_7 (y : Int) (w : World) (h0 : 1900 ≤ y) (h1 : y ≤ 2199) : Calls Tryz.prog 142 #[.int .i64 y, .int .i64 7] w fun e w' => e = .returned (.int .i64 31) ∧ Below w.heap.size w w' := by
 go_enter Tryz.func142, Tryz.ntmps142
 go_wp2
 go_ret
 exact ⟨rfl, (Below.refl _ _).alloc (Nat.le_refl _) _⟩
theorem days_8 (y : Int) (w : World) (h0 : 1900 ≤ y) (h1 : y ≤ 2199) : Calls Tryz.prog 142 #[.int .i64 y, .int .i64 8] w fun e w' => e = .returned (.int .i64 31) ∧ Below w.heap.size w w' := by
 go_enter Tryz.func142, Tryz.ntmps142
 go_wp2
 go_ret
 exact ⟨rfl, (Below.refl _ _).alloc (Nat.le_refl _) _⟩
theorem days_9 (y : Int) (w : World) (h0 : 1900 ≤ y) (h1 : y ≤ 2199) : Calls Tryz.prog 142 #[.int .i64 y, .int .i64 9] w fun e w' => e = .returned (.int .i64 30) ∧ Below w.heap.size w w' := by
 go_enter Tryz.func142, Tryz.ntmps142
 go_wp2
 go_ret
 exact ⟨rfl, (Below.refl _ _).alloc (Nat.le_refl _) _⟩
theorem days_10 (y : Int) (w : World) (h0 : 1900 ≤ y) (h1 : y ≤ 2199) : Calls Tryz.prog 142 #[.int .i64 y, .int .i64 10] w fun e w' => e = .returned (.int .i64 31) ∧ Below w.heap.size w w' := by
 go_enter Tryz.func142, Tryz.ntmps142
 go_wp2
 go_ret
 exact ⟨rfl, (Below.refl _ _).alloc (Nat.le_refl _) _⟩
theorem days_11 (y : Int) (w : World) (h0 : 1900 ≤ y) (h1 : y ≤ 2199) : Calls Tryz.prog 142 #[.int .i64 y, .int .i64 11] w fun e w' => e = .returned (.int .i64 30) ∧ Below w.heap.size w w' := by
 go_enter Tryz.func142, Tryz.ntmps142
 go_wp2
 go_ret
 exact ⟨rfl, (Below.refl _ _).alloc (Nat.le_refl _) _⟩
theorem days_12 (y : Int) (w : World) (h0 : 1900 ≤ y) (h1 : y ≤ 2199) : Calls Tryz.prog 142 #[.int .i64 y, .int .i64 12] w fun e w' => e = .returned (.int .i64 31) ∧ Below w.heap.size w w' := by
 go_enter Tryz.func142, Tryz.ntmps142
 go_wp2
 go_ret
 exact ⟨rfl, (Below.refl _ _).alloc (Nat.le_refl _) _⟩
theorem days_any (y m : Int) (w : World) : Calls Tryz.prog 142 #[.int .i64 y, .int .i64 m] w fun e w' => e = .returned (.int .i64 (dys y m)) ∧ Below w.heap.size w w' := by
 cases h : inYM y m
 ·rw [dys_out h]; exact days_out y m w h
 ·rw [dys_in h]
  obtain ⟨a, b, c, d⟩ := inYM_iff.1 h
  clear h
  rcases twelve c d with rfl | rfl | rfl | rfl | rfl | rfl | rfl | rfl | rfl | rfl | rfl | rfl
  ·exact days_1 y w a b
  ·exact days_two y w a b
  ·exact days_3 y w a b
  ·exact days_4 y w a b
  ·exact days_5 y w a b
  ·exact days_6 y w a b
  ·exact days_7 y w a b
  ·exact days_8 y w a b
  ·exact days_9 y w a b
  ·exact days_10 y w a b
  ·exact days_11 y w a b
  ·exact days_12 y w a b
def mlens : Array Value := #[.int .i64 31, .int .i64 28, .int .i64 31, .int .i64 30, .int .i64 31, .int .i64 30, .int .i64 31, .int .i64 31, .int .i64 30, .int .i64 31, .int .i64 30, .int .i64 31]
theorem run_index_arr {P : Program} (t e : TypeId) (n : Nat) (cs : Array Value) (k : IntKind) (i : Nat) (v : Value) (w : World) (h : P.underlying t = some (.array n e)) (hi : i < n) (hv : cs[i]? = some v)
  (hs : ∀ w, (sizeOf e).run P w = .ok 1 w) (ha : ∀ w, (isAgg e).run P w = .ok false w) :
  (Instr.index t (.agg cs) (.int k i)).run P w = .ok v w := by
 simp [Instr.index, run_underlying h, asIntOf, hv, hi, hs, ha, go_sem]
theorem size_int (w : World) : (sizeOf 3).run Tryz.prog w = .ok 1 w := by
 have h : Tryz.t3.size = 1 := by kernel_rfl
 simp [sizeOf, h, go_sem]
theorem agg_int (w : World) : (isAgg 3).run Tryz.prog w = .ok false w := by
 simp [isAgg, run_underlying Tryz.underlying3, go_sem]
theorem rdays_out (y m : Int) (w : World) (h : inYM y m = false) : Calls Tryz.prog 73 #[.int .i64 y, .int .i64 m] w fun e w' => e = .returned (.int .i64 0) ∧ w = w' := by
 have hx : m < 1 ∨ ¬ m < 1 ∧ 12 < m ∨ ¬ m < 1 ∧ ¬ 12 < m ∧ y < 1900 ∨ ¬ m < 1 ∧ ¬ 12 < m ∧ ¬ y < 1900 ∧ 2199 < y := by
  have h2 : ¬ (1900 ≤ y ∧ y ≤ 2199 ∧ 1 ≤ m ∧ m ≤ 12) := fun e => by rw [inYM_iff.2 e] at h; cases h
  omega
 clear h
 rcases hx with h1 | ⟨h0, h1⟩ | ⟨h0, h1, h2⟩ | ⟨h0, h1, h2, h3⟩
 all_goals
  go_enter Tryz.func73, Tryz.ntmps73
  go_wp2
  go_ret
  exact ⟨rfl, rfl⟩
theorem rdays_two (y : Int) (w : World) (h0 : 1900 ≤ y) (h1 : y ≤ 2199) : Calls Tryz.prog 73 #[.int .i64 y, .int .i64 2] w fun e w' => e = .returned (.int .i64 (28 + lpI y)) ∧ w = w' := by
 have hi := fun w => rleap_any y w (by omega)
 unfold lpI
 cases hl : lpB y
 all_goals
  rw [hl] at hi
  have HI := Lib.hid hi
  clear hi hl
  have hx : ∀ W : World, (Instr.index 138 (.agg #[.int .i64 31, .int .i64 28, .int .i64 31, .int .i64 30, .int .i64 31, .int .i64 30, .int .i64 31, .int .i64 31, .int .i64 30, .int .i64 31, .int .i64 30, .int .i64 31]) (.int .i64 1)).run Tryz.prog W = .ok (.int .i64 28) W := fun W => run_index_arr (P := Tryz.prog) 138 3 12 mlens .i64 1 (.int .i64 28) W Tryz.underlying138 (by omega) rfl size_int agg_int
  go_enter Tryz.func73, Tryz.ntmps73
  go_wp2_with (go_at_call 106; refine (HI.out _).mono ?_; rintro e w' ⟨rfl, rfl⟩)
  go_ret
  exact ⟨rfl, rfl⟩
theorem rdays_1 (y : Int) (w : World) (h0 : 1900 ≤ y) (h1 : y ≤ 2199) : Calls Tryz.prog 73 #[.int .i64 y, .int .i64 1] w fun e w' => e = .returned (.int .i64 31) ∧ w = w' := by
 have hx : ∀ W : World, (Instr.index 138 (.agg #[.int .i64 31, .int .i64 28, .int .i64 31, .int .i64 30, .int .i64 31, .int .i64 30, .int .i64 31, .int .i64 31, .int .i64 30, .int .i64 31, .int .i64 30, .int .i64 31]) (.int .i64 0)).run Tryz.prog W = .ok (.int .i64 31) W := fun W => run_index_arr (P := Tryz.prog) 138 3 12 mlens .i64 0 (.int .i64 31) W Tryz.underlying138 (by omega) rfl size_int agg_int
 go_enter Tryz.func73, Tryz.ntmps73
 go_wp2
 go_ret
 exact ⟨rfl, rfl⟩
theorem rdays_3 (y : Int) (w : World) (h0 : 1900 ≤ y) (h1 : y ≤ 2199) : Calls Tryz.prog 73 #[.int .i64 y, .int .i64 3] w fun e w' => e = .returned (.int .i64 31) ∧ w = w' := by
 have hx : ∀ W : World, (Instr.index 138 (.agg #[.int .i64 31, .int .i64 28, .int .i64 31, .int .i64 30, .int .i64 31, .int .i64 30, .int .i64 31, .int .i64 31, .int .i64 30, .int .i64 31, .int .i64 30, .int .i64 31]) (.int .i64 2)).run Tryz.prog W = .ok (.int .i64 31) W := fun W => run_index_arr (P := Tryz.prog) 138 3 12 mlens .i64 2 (.int .i64 31) W Tryz.underlying138 (by omega) rfl size_int agg_int
 go_enter Tryz.func73, Tryz.ntmps73
 go_wp2
 go_ret
 exact ⟨rfl, rfl⟩
theorem rdays_4 (y : Int) (w : World) (h0 : 1900 ≤ y) (h1 : y ≤ 2199) : Calls Tryz.prog 73 #[.int .i64 y, .int .i64 4] w fun e w' => e = .returned (.int .i64 30) ∧ w = w' := by
 have hx : ∀ W : World, (Instr.index 138 (.agg #[.int .i64 31, .int .i64 28, .int .i64 31, .int .i64 30, .int .i64 31, .int .i64 30, .int .i64 31, .int .i64 31, .int .i64 30, .int .i64 31, .int .i64 30, .int .i64 31]) (.int .i64 3)).run Tryz.prog W = .ok (.int .i64 30) W := fun W => run_index_arr (P := Tryz.prog) 138 3 12 mlens .i64 3 (.int .i64 30) W Tryz.underlying138 (by omega) rfl size_int agg_int
 go_enter Tryz.func73, Tryz.ntmps73
 go_wp2
 go_ret
 exact ⟨rfl, rfl⟩
theorem rdays_5 (y : Int) (w : World) (h0 : 1900 ≤ y) (h1 : y ≤ 2199) : Calls Tryz.prog 73 #[.int .i64 y, .int .i64 5] w fun e w' => e = .returned (.int .i64 31) ∧ w = w' := by
 have hx : ∀ W : World, (Instr.index 138 (.agg #[.int .i64 31, .int .i64 28, .int .i64 31, .int .i64 30, .int .i64 31, .int .i64 30, .int .i64 31, .int .i64 31, .int .i64 30, .int .i64 31, .int .i64 30, .int .i64 31]) (.int .i64 4)).run Tryz.prog W = .ok (.int .i64 31) W := fun W => run_index_arr (P := Tryz.prog) 138 3 12 mlens .i64 4 (.int .i64 31) W Tryz.underlying138 (by omega) rfl size_int agg_int
 go_enter Tryz.func73, Tryz.ntmps73
 go_wp2
 go_ret
 exact ⟨rfl, rfl⟩
theorem rdays_6 (y : Int) (w : World) (h0 : 1900 ≤ y) (h1 : y ≤ 2199) : Calls Tryz.prog 73 #[.int .i64 y, .int .i64 6] w fun e w' => e = .returned (.int .i64 30) ∧ w = w' := by
 have hx : ∀ W : World, (Instr.index 138 (.agg #[.int .i64 31, .int .i64 28, .int .i64 31, .int .i64 30, .int .i64 31, .int .i64 30, .int .i64 31, .int .i64 31, .int .i64 30, .int .i64 31, .int .i64 30, .int .i64 31]) (.int .i64 5)).run Tryz.prog W = .ok (.int .i64 30) W := fun W => run_index_arr (P := Tryz.prog) 138 3 12 mlens .i64 5 (.int .i64 30) W Tryz.underlying138 (by omega) rfl size_int agg_int
 go_enter Tryz.func73, Tryz.ntmps73
 go_wp2
 go_ret
 exact ⟨rfl, rfl⟩
theorem rdays_7 (y : Int) (w : World) (h0 : 1900 ≤ y) (h1 : y ≤ 2199) : Calls Tryz.prog 73 #[.int .i64 y, .int .i64 7] w fun e w' => e = .returned (.int .i64 31) ∧ w = w' := by
 have hx : ∀ W : World, (Instr.index 138 (.agg #[.int .i64 31, .int .i64 28, .int .i64 31, .int .i64 30, .int .i64 31, .int .i64 30, .int .i64 31, .int .i64 31, .int .i64 30, .int .i64 31, .int .i64 30, .int .i64 31]) (.int .i64 6)).run Tryz.prog W = .ok (.int .i64 31) W := fun W => run_index_arr (P := Tryz.prog) 138 3 12 mlens .i64 6 (.int .i64 31) W Tryz.underlying138 (by omega) rfl size_int agg_int
 go_enter Tryz.func73, Tryz.ntmps73
 go_wp2
 go_ret
 exact ⟨rfl, rfl⟩
theorem rdays_8 (y : Int) (w : World) (h0 : 1900 ≤ y) (h1 : y ≤ 2199) : Calls Tryz.prog 73 #[.int .i64 y, .int .i64 8] w fun e w' => e = .returned (.int .i64 31) ∧ w = w' := by
 have hx : ∀ W : World, (Instr.index 138 (.agg #[.int .i64 31, .int .i64 28, .int .i64 31, .int .i64 30, .int .i64 31, .int .i64 30, .int .i64 31, .int .i64 31, .int .i64 30, .int .i64 31, .int .i64 30, .int .i64 31]) (.int .i64 7)).run Tryz.prog W = .ok (.int .i64 31) W := fun W => run_index_arr (P := Tryz.prog) 138 3 12 mlens .i64 7 (.int .i64 31) W Tryz.underlying138 (by omega) rfl size_int agg_int
 go_enter Tryz.func73, Tryz.ntmps73
 go_wp2
 go_ret
 exact ⟨rfl, rfl⟩
theorem rdays_9 (y : Int) (w : World) (h0 : 1900 ≤ y) (h1 : y ≤ 2199) : Calls Tryz.prog 73 #[.int .i64 y, .int .i64 9] w fun e w' => e = .returned (.int .i64 30) ∧ w = w' := by
 have hx : ∀ W : World, (Instr.index 138 (.agg #[.int .i64 31, .int .i64 28, .int .i64 31, .int .i64 30, .int .i64 31, .int .i64 30, .int .i64 31, .int .i64 31, .int .i64 30, .int .i64 31, .int .i64 30, .int .i64 31]) (.int .i64 8)).run Tryz.prog W = .ok (.int .i64 30) W := fun W => run_index_arr (P := Tryz.prog) 138 3 12 mlens .i64 8 (.int .i64 30) W Tryz.underlying138 (by omega) rfl size_int agg_int
 go_enter Tryz.func73, Tryz.ntmps73
 go_wp2
 go_ret
 exact ⟨rfl, rfl⟩
theorem rdays_10 (y : Int) (w : World) (h0 : 1900 ≤ y) (h1 : y ≤ 2199) : Calls Tryz.prog 73 #[.int .i64 y, .int .i64 10] w fun e w' => e = .returned (.int .i64 31) ∧ w = w' := by
 have hx : ∀ W : World, (Instr.index 138 (.agg #[.int .i64 31, .int .i64 28, .int .i64 31, .int .i64 30, .int .i64 31, .int .i64 30, .int .i64 31, .int .i64 31, .int .i64 30, .int .i64 31, .int .i64 30, .int .i64 31]) (.int .i64 9)).run Tryz.prog W = .ok (.int .i64 31) W := fun W => run_index_arr (P := Tryz.prog) 138 3 12 mlens .i64 9 (.int .i64 31) W Tryz.underlying138 (by omega) rfl size_int agg_int
 go_enter Tryz.func73, Tryz.ntmps73
 go_wp2
 go_ret
 exact ⟨rfl, rfl⟩
theorem rdays_11 (y : Int) (w : World) (h0 : 1900 ≤ y) (h1 : y ≤ 2199) : Calls Tryz.prog 73 #[.int .i64 y, .int .i64 11] w fun e w' => e = .returned (.int .i64 30) ∧ w = w' := by
 have hx : ∀ W : World, (Instr.index 138 (.agg #[.int .i64 31, .int .i64 28, .int .i64 31, .int .i64 30, .int .i64 31, .int .i64 30, .int .i64 31, .int .i64 31, .int .i64 30, .int .i64 31, .int .i64 30, .int .i64 31]) (.int .i64 10)).run Tryz.prog W = .ok (.int .i64 30) W := fun W => run_index_arr (P := Tryz.prog) 138 3 12 mlens .i64 10 (.int .i64 30) W Tryz.underlying138 (by omega) rfl size_int agg_int
 go_enter Tryz.func73, Tryz.ntmps73
 go_wp2
 go_ret
 exact ⟨rfl, rfl⟩
theorem rdays_12 (y : Int) (w : World) (h0 : 1900 ≤ y) (h1 : y ≤ 2199) : Calls Tryz.prog 73 #[.int .i64 y, .int .i64 12] w fun e w' => e = .returned (.int .i64 31) ∧ w = w' := by
 have hx : ∀ W : World, (Instr.index 138 (.agg #[.int .i64 31, .int .i64 28, .int .i64 31, .int .i64 30, .int .i64 31, .int .i64 30, .int .i64 31, .int .i64 31, .int .i64 30, .int .i64 31, .int .i64 30, .int .i64 31]) (.int .i64 11)).run Tryz.prog W = .ok (.int .i64 31) W := fun W => run_index_arr (P := Tryz.prog) 138 3 12 mlens .i64 11 (.int .i64 31) W Tryz.underlying138 (by omega) rfl size_int agg_int
 go_enter Tryz.func73, Tryz.ntmps73
 go_wp2
 go_ret
 exact ⟨rfl, rfl⟩
theorem rdays_any (y m : Int) (w : World) : Calls Tryz.prog 73 #[.int .i64 y, .int .i64 m] w fun e w' => e = .returned (.int .i64 (dys y m)) ∧ w = w' := by
 cases h : inYM y m
 ·rw [dys_out h]; exact rdays_out y m w h
 ·rw [dys_in h]
  obtain ⟨a, b, c, d⟩ := inYM_iff.1 h
  clear h
  rcases twelve c d with rfl | rfl | rfl | rfl | rfl | rfl | rfl | rfl | rfl | rfl | rfl | rfl
  ·exact rdays_1 y w a b
  ·exact rdays_two y w a b
  ·exact rdays_3 y w a b
  ·exact rdays_4 y w a b
  ·exact rdays_5 y w a b
  ·exact rdays_6 y w a b
  ·exact rdays_7 y w a b
  ·exact rdays_8 y w a b
  ·exact rdays_9 y w a b
  ·exact rdays_10 y w a b
  ·exact rdays_11 y w a b
  ·exact rdays_12 y w a b

/- The tests of Of, as they show. -/
theorem dayB_no {y m d : Int} (h : dayB y m d = false) : d < 1 ∨ ¬ d < 1 ∧ dys y m < d := by
 have h2 : ¬ (1 ≤ d ∧ d ≤ dys y m) := fun e => by
  have h3 : dayB y m d = true := by unfold dayB; rw [decide_eq_true e.1, decide_eq_true e.2]; rfl
  rw [h3] at h; cases h
 omega
theorem dayB_yes {y m d : Int} (h : dayB y m d = true) : ¬ d < 1 ∧ ¬ dys y m < d := by
 unfold dayB at h
 rw [Bool.and_eq_true, decide_eq_true_eq, decide_eq_true_eq] at h
 omega
theorem rof_no (y m d : Int) (w : World) (h : dayB y m d = false) : Calls Tryz.prog 103 #[.int .i64 y, .int .i64 m, .int .i64 d] w fun e w' => e = .returned (.tuple #[.int .i64 0, .int .i64 2]) ∧ w = w' := by
 have hx := dayB_no h
 clear h
 rcases hx with h1 | ⟨h1, h2⟩
 ·go_enter Tryz.func103, Tryz.ntmps103
  go_wp2
  go_ret2
  exact ⟨rfl, rfl⟩
 ·go_enter Tryz.func103, Tryz.ntmps103
  go_wp2_with (go_at_call 73; refine (rdays_any _ _ _).mono ?_; rintro e w' ⟨rfl, rfl⟩)
  go_ret2
  exact ⟨rfl, rfl⟩
theorem rof_yes (y m d : Int) (w : World) (h : dayB y m d = true) : Calls Tryz.prog 103 #[.int .i64 y, .int .i64 m, .int .i64 d] w fun e w' => e = .returned (.tuple #[.int .i64 (dno y m d), .int .i64 0]) ∧ w = w' := by
 have hc := dayB_iff.1 h
 obtain ⟨h1, h2⟩ := dayB_yes h
 obtain ⟨y0, y1, m0, m1, d0, d1, -⟩ := hc
 clear h
 have hn := nyr_bd (y := y) (by omega) (by omega)
 have hd := mdy_bd y m
 go_enter Tryz.func103, Tryz.ntmps103
 go_wp2_with (go_at_call 73; refine (rdays_any _ _ _).mono ?_; rintro e w' ⟨rfl, rfl⟩)
 go_loop [8, 9] (fun v1 v2 => ∃ a : Int, 1900 ≤ a ∧ a ≤ y ∧ v2 = .int .i64 a ∧ v1 = .int .i64 (nyr a)) (fun v1 v2 => (y - intOf v2).toNat)
 case atStart => exact ⟨1900, by omega, by omega, rfl, rfl⟩
 case round =>
  obtain ⟨a, a0, a1, rfl, rfl⟩ := hrel
  have hb := nyr_bd (y := a) (by omega) (by omega)
  by_cases hlt : a < y
  ·have hs := nyr_succ a (by omega)
   have hi := fun w => rleap_any a w (by omega)
   unfold lpI at hs
   have HS := Lib.hid hs
   clear hs
   cases hl : lpB a
   all_goals
    rw [hl] at hi HS
    have HI := Lib.hid hi
    clear hi hl
    go_wp2_with (go_at_call 106; refine (HI.out _).mono ?_; rintro e w' ⟨rfl, rfl⟩)
    go_round
    case rel => exact ⟨a + 1, by omega, by omega, rfl, by first | (rw [HS.out]; done) | (rw [HS.out]; simp)⟩
    case measure => simp [intOf]; omega
  ·obtain rfl : a = y := by omega
   go_wp2
   go_loop [8, 10] (fun v1 v2 => ∃ b : Int, 1 ≤ b ∧ b ≤ m ∧ v2 = .int .i64 b ∧ v1 = .int .i64 (nyr a + mon a b)) (fun v1 v2 => (m - intOf v2).toNat)
   case atStart => exact ⟨1, by omega, by omega, rfl, by rw [mon_1]; go_num⟩
   case round =>
    obtain ⟨b, b0, b1, rfl, rfl⟩ := hrel
    have hm := mon_bd (y := a) (m := b) (by omega) (by omega)
    have hl := lpI_01 a
    by_cases hlt : b < m
    ·have hs := mon_succ a b (by omega) (by omega)
     have hb0 := mdy_bd a b
     have hi : inYM a b = true := inYM_iff.2 ⟨by omega, by omega, by omega, by omega⟩
     have hy := fun w => rdays_any a b w
     rw [dys_in hi] at hy
     have HY := Lib.hid hy
     have HS := Lib.hid hs
     clear hy hs hi
     go_wp2_with (go_at_call 73; refine (HY.out _).mono ?_; rintro e w' ⟨rfl, rfl⟩)
     go_round
     case rel => exact ⟨b + 1, by omega, by omega, rfl, by rw [HS.out]; go_num⟩
     case measure => simp [intOf]; omega
    ·obtain rfl : b = m := by omega
     go_wp2
     go_ret2
     exact ⟨by unfold dno; go_num, rfl⟩
theorem dtrof_any (y m d : Int) (w : World) : Calls Tryz.prog 103 #[.int .i64 y, .int .i64 m, .int .i64 d] w fun e w' => e = .returned (.tuple #[.int .i64 (ofN y m d), .int .i64 (ofE y m d)]) ∧ w = w' := by
 unfold ofN ofE
 cases h : dayB y m d
 ·exact rof_no y m d w h
 ·exact rof_yes y m d w h
theorem civ_no (n : Int) (w : World) (h : vdB n = false) : Calls Tryz.prog 154 #[.int .i64 n] w fun e w' => e = .returned (.tuple #[.int .i64 0, .int .i64 0, .int .i64 0, .int .i64 2]) ∧ w = w' := by
 have hv := fun w => vd_any n w
 rw [h] at hv
 have HV := Lib.hid hv
 clear hv h
 go_enter Tryz.func154, Tryz.ntmps154
 go_wp2_with (go_at_call 169; refine (HV.out _).mono ?_; rintro e w' ⟨rfl, rfl⟩)
 exact bodyPost_ret (v := .tuple #[.int .i64 0, .int .i64 0, .int .i64 0, .int .i64 2]) (by simp [results, Tryz.results154, go_sem]) rfl ⟨rfl, rfl⟩
theorem civ_loop {n y m d : Int} (h : IsCiv n y m d) {b : Int} (b0 : 1 ≤ b) (b1 : b ≤ m) : (b < m → mdy y b < n - nyr y - mon y b + 1) ∧ (b = m → ¬ mdy y b < n - nyr y - mon y b + 1) := by
 obtain ⟨y0, y1, m0, m1, d0, d1, rfl⟩ := h
 unfold dno
 constructor
 ·intro hlt
  have h1 := mon_succ y b b0 (by omega)
  have h2 := mon_mono (y := y) (m := b + 1) (n := m) (by omega) (by omega) (by omega)
  omega
 ·rintro rfl
  omega
theorem civ_yes (n y m d : Int) (w : World) (h : IsCiv n y m d) : Calls Tryz.prog 154 #[.int .i64 n] w fun e w' => e = .returned (.tuple #[.int .i64 y, .int .i64 m, .int .i64 d, .int .i64 0]) ∧ Below w.heap.size w w' := by
 have hv := fun w => vd_any n w
 have hv1 := vdB_iff.2 h.bd
 rw [hv1] at hv
 have HV := Lib.hid hv
 obtain ⟨n0, n1⟩ := h.bd
 obtain ⟨c0, c1, c2, c3⟩ := civY_bd n0 n1
 have hY := (civ_eq h).1
 have HC := Lib.hid h
 have hd : n - nyr y - mon y m + 1 = d := by have := h.eq; unfold dno at this; omega
 obtain ⟨y0, y1, m0, m1, d0, d1, -⟩ := h
 have hB := Below.refl w.heap.size w
 have e0 : civY0 n = 1900 + (n + 25567) / 365 := rfl
 have k0 : 1900 ≤ civY0 n := by omega
 have k1 : civY0 n ≤ 2200 := by omega
 have e1 : civY n = if n < nyr (civY0 n) then civY0 n - 1 else civY0 n := rfl
 clear hv hv1
 by_cases hg : n < nyr (civY0 n)
 ·rw [if_pos hg] at e1
  have e2 : civY0 n - 1 = y := by omega
  rw [e0] at hg e2 k0 k1
  have k2 : -25567 ≤ nyr (1900 + (n + 25567) / 365) ∧ nyr (1900 + (n + 25567) / 365) ≤ 84006 := nyr_bd k0 (by omega)
  have k3 : 1900 ≤ 1900 + (n + 25567) / 365 - 1 := by omega
  have k4 : -25567 ≤ nyr (1900 + (n + 25567) / 365 - 1) ∧ nyr (1900 + (n + 25567) / 365 - 1) ≤ 84006 := nyr_bd k3 (by omega)
  have E2 := Lib.hid e2
  have HD := Lib.hid hd
  clear e0 e1 e2 hY hd
  go_enter Tryz.func154, Tryz.ntmps154
  go_wp2_with (first | (go_at_call 169; refine (HV.out _).mono ?_; rintro e w' ⟨rfl, rfl⟩) | (go_at_call 170; refine (newYear_any _ _ (by omega) (by omega)).mono ?_; rintro e w' ⟨rfl, rfl⟩))
  rw [E2.out]
  go_loopw [3, 4] (fun v1 v2 w1 => ∃ b : Int, 1 ≤ b ∧ b ≤ m ∧ v1 = .int .i64 b ∧ v2 = .int .i64 (n - nyr y - mon y b + 1) ∧ Below w.heap.size w w1) (fun v1 v2 w1 => (m - intOf v1).toNat)
  case atStart => exact ⟨1, by omega, by omega, rfl, by rw [mon_1]; go_num, hB⟩
  case round =>
   obtain ⟨b, b0, b1, rfl, rfl, hB1⟩ := hrel
   have hm := mon_bd (y := y) (m := b) (by omega) (by omega)
   have hlp := lpI_01 y
   have hnb := nyr_bd (y := y) (by omega) (by omega)
   have hL := civ_loop HC.out b0 b1
   have hb0 := mdy_bd y b
   have hi : inYM y b = true := inYM_iff.2 ⟨by omega, by omega, by omega, by omega⟩
   have hy := fun w => days_any y b w
   rw [dys_in hi] at hy
   have HY := Lib.hid hy
   clear hy hi
   by_cases hlt : b < m
   ·have hs := mon_succ y b (by omega) (by omega)
    have hL2 := hL.1 hlt
    have HS := Lib.hid hs
    clear hs hL
    go_wp2_with (go_at_call 142; refine (HY.out _).mono ?_; rintro e w' ⟨rfl, hb⟩; replace hB1 := below_more hB1 hb; clear hb)
    go_roundw
    case rel => exact ⟨b + 1, by omega, by omega, rfl, by rw [HS.out]; go_num, hB1⟩
    case measure => simp [intOf]; omega
   ·obtain rfl : b = m := by omega
    have hL2 := hL.2 rfl
    clear hL hlt
    go_wp2_with (go_at_call 142; refine (HY.out _).mono ?_; rintro e w' ⟨rfl, hb⟩; replace hB1 := below_more hB1 hb; clear hb)
    exact bodyPost_ret (v := .tuple #[.int .i64 y, .int .i64 b, .int .i64 (n - nyr y - mon y b + 1), .int .i64 0]) (by simp [results, Tryz.results154, go_sem]) rfl ⟨by rw [HD.out], hB1⟩
 ·rw [if_neg hg] at e1
  have e2 : civY0 n = y := by omega
  rw [e0] at hg e2 k0 k1
  have k2 : -25567 ≤ nyr (1900 + (n + 25567) / 365) ∧ nyr (1900 + (n + 25567) / 365) ≤ 84006 := nyr_bd k0 (by omega)
  have E2 := Lib.hid e2
  have HD := Lib.hid hd
  clear e0 e1 e2 hY hd
  go_enter Tryz.func154, Tryz.ntmps154
  go_wp2_with (first | (go_at_call 169; refine (HV.out _).mono ?_; rintro e w' ⟨rfl, rfl⟩) | (go_at_call 170; refine (newYear_any _ _ (by omega) (by omega)).mono ?_; rintro e w' ⟨rfl, rfl⟩))
  rw [E2.out]
  go_loopw [3, 4] (fun v1 v2 w1 => ∃ b : Int, 1 ≤ b ∧ b ≤ m ∧ v1 = .int .i64 b ∧ v2 = .int .i64 (n - nyr y - mon y b + 1) ∧ Below w.heap.size w w1) (fun v1 v2 w1 => (m - intOf v1).toNat)
  case atStart => exact ⟨1, by omega, by omega, rfl, by rw [mon_1]; go_num, hB⟩
  case round =>
   obtain ⟨b, b0, b1, rfl, rfl, hB1⟩ := hrel
   have hm := mon_bd (y := y) (m := b) (by omega) (by omega)
   have hlp := lpI_01 y
   have hnb := nyr_bd (y := y) (by omega) (by omega)
   have hL := civ_loop HC.out b0 b1
   have hb0 := mdy_bd y b
   have hi : inYM y b = true := inYM_iff.2 ⟨by omega, by omega, by omega, by omega⟩
   have hy := fun w => days_any y b w
   rw [dys_in hi] at hy
   have HY := Lib.hid hy
   clear hy hi
   by_cases hlt : b < m
   ·have hs := mon_succ y b (by omega) (by omega)
    have hL2 := hL.1 hlt
    have HS := Lib.hid hs
    clear hs hL
    go_wp2_with (go_at_call 142; refine (HY.out _).mono ?_; rintro e w' ⟨rfl, hb⟩; replace hB1 := below_more hB1 hb; clear hb)
    go_roundw
    case rel => exact ⟨b + 1, by omega, by omega, rfl, by rw [HS.out]; go_num, hB1⟩
    case measure => simp [intOf]; omega
   ·obtain rfl : b = m := by omega
    have hL2 := hL.2 rfl
    clear hL hlt
    go_wp2_with (go_at_call 142; refine (HY.out _).mono ?_; rintro e w' ⟨rfl, hb⟩; replace hB1 := below_more hB1 hb; clear hb)
    exact bodyPost_ret (v := .tuple #[.int .i64 y, .int .i64 b, .int .i64 (n - nyr y - mon y b + 1), .int .i64 0]) (by simp [results, Tryz.results154, go_sem]) rfl ⟨by rw [HD.out], hB1⟩
theorem civ_any (n : Int) (w : World) (h : vdB n = true) : Calls Tryz.prog 154 #[.int .i64 n] w fun e w' => e = .returned (.tuple #[.int .i64 (civY n), .int .i64 (civM n), .int .i64 (civD n), .int .i64 0]) ∧ Below w.heap.size w w' := civ_yes n _ _ _ w (civ_is h)
theorem rciv_no (n : Int) (w : World) (h : vdB n = false) : Calls Tryz.prog 72 #[.int .i64 n] w fun e w' => e = .returned (.tuple #[.int .i64 0, .int .i64 0, .int .i64 0, .int .i64 2]) ∧ w = w' := by
 have hv := fun w => rvd_any n w
 rw [h] at hv
 have HV := Lib.hid hv
 clear hv h
 go_enter Tryz.func72, Tryz.ntmps72
 go_wp2_with (go_at_call 105; refine (HV.out _).mono ?_; rintro e w' ⟨rfl, rfl⟩)
 exact bodyPost_ret (v := .tuple #[.int .i64 0, .int .i64 0, .int .i64 0, .int .i64 2]) (by simp [results, Tryz.results72, go_sem]) rfl ⟨rfl, rfl⟩
theorem rciv_year {n y m d : Int} (h : IsCiv n y m d) {a : Int} (a0 : 1900 ≤ a) (a1 : a ≤ y) : (a < y → 365 + lpI a ≤ n - nyr a) ∧ (a = y → n - nyr a < 365 + lpI a ∧ 0 ≤ n - nyr a) ∧ 0 ≤ n - nyr a := by
 have hy := h.yr
 have hs := nyr_succ a a0
 refine ⟨fun hlt => ?_, ?_, ?_⟩
 ·have h1 := nyr_mono (y := a + 1) (z := y) (by omega) (by omega)
  omega
 ·rintro rfl
  omega
 ·have h1 := nyr_mono (y := a) (z := y) (by omega) (by omega)
  omega
theorem rciv_yes (n y m d : Int) (w : World) (h : IsCiv n y m d) : Calls Tryz.prog 72 #[.int .i64 n] w fun e w' => e = .returned (.tuple #[.int .i64 y, .int .i64 m, .int .i64 d, .int .i64 0]) ∧ w = w' := by
 have hv := fun w => rvd_any n w
 have hv1 := vdB_iff.2 h.bd
 rw [hv1] at hv
 have HV := Lib.hid hv
 have HC := Lib.hid h
 obtain ⟨n0, n1⟩ := h.bd
 have hd : n - nyr y - mon y m + 1 = d := by have := h.eq; unfold dno at this; omega
 have HD := Lib.hid hd
 obtain ⟨y0, y1, m0, m1, d0, d1, -⟩ := h
 clear hv hv1 hd
 go_enter Tryz.func72, Tryz.ntmps72
 go_wp2_with (go_at_call 105; refine (HV.out _).mono ?_; rintro e w' ⟨rfl, rfl⟩)
 go_loop [6, 8] (fun v1 v2 => ∃ a : Int, 1900 ≤ a ∧ a ≤ y ∧ v1 = .int .i64 a ∧ v2 = .int .i64 (n - nyr a)) (fun v1 v2 => (y - intOf v1).toNat)
 case atStart => exact ⟨1900, by omega, by omega, rfl, by rw [nyr_1900]; go_num⟩
 case round =>
  obtain ⟨a, a0, a1, rfl, rfl⟩ := hrel
  obtain ⟨hA1, hA2, hA3⟩ := rciv_year HC.out a0 a1
  have hab := nyr_bd (y := a) (by omega) (by omega)
  have hs := nyr_succ a (by omega)
  have hi := fun w => rleap_any a w (by omega)
  by_cases hlt : a < y
  ·replace hA1 := hA1 hlt
   clear hA2
   unfold lpI at hs hA1
   have HS := Lib.hid hs
   clear hs
   cases hl : lpB a
   all_goals
    rw [hl] at hi HS hA1
    have HI := Lib.hid hi
    clear hi hl
    simp only [Bool.false_eq_true, if_false, if_true] at hA1
    go_wp2_with (go_at_call 106; refine (HI.out _).mono ?_; rintro e w' ⟨rfl, rfl⟩)
    go_round
    case rel => exact ⟨a + 1, by omega, by omega, rfl, by rw [HS.out]; go_num⟩
    case measure => simp [intOf]; omega
  ·obtain rfl : a = y := by omega
   obtain ⟨hA4, -⟩ := hA2 rfl
   clear hA2 hA1 hs hlt
   have hlp := lpI_01 a
   have hfin : ∀ (P : Prop), P → P := fun _ h => h
   unfold lpI at hA4
   cases hl : lpB a
   all_goals
    rw [hl] at hi hA4
    have HI := Lib.hid hi
    clear hi hl hfin
    simp only [Bool.false_eq_true, if_false, if_true] at hA4
    go_wp2_with (go_at_call 106; refine (HI.out _).mono ?_; rintro e w' ⟨rfl, rfl⟩)
    go_loop [7, 8] (fun v1 v2 => ∃ b : Int, 1 ≤ b ∧ b ≤ m ∧ v1 = .int .i64 b ∧ v2 = .int .i64 (n - nyr a - mon a b)) (fun v1 v2 => (m - intOf v1).toNat)
    case atStart => exact ⟨1, by omega, by omega, rfl, by rw [mon_1]; go_num⟩
    case round =>
     obtain ⟨b, b0, b1, rfl, rfl⟩ := hrel
     have hm := mon_bd (y := a) (m := b) (by omega) (by omega)
     have hL := civ_loop HC.out b0 b1
     have hb0 := mdy_bd a b
     have hi : inYM a b = true := inYM_iff.2 ⟨by omega, by omega, by omega, by omega⟩
     have hy := fun w => rdays_any a b w
     rw [dys_in hi] at hy
     have HY := Lib.hid hy
     clear hy hi
     by_cases hlt : b < m
     ·have hs := mon_succ a b (by omega) (by omega)
      have hL2 : mdy a b ≤ n - nyr a - mon a b := by have := hL.1 hlt; omega
      have HS := Lib.hid hs
      clear hs hL
      go_wp2_with (go_at_call 73; refine (HY.out _).mono ?_; rintro e w' ⟨rfl, rfl⟩)
      go_round
      case rel => exact ⟨b + 1, by omega, by omega, rfl, by rw [HS.out]; go_num⟩
      case measure => simp [intOf]; omega
     ·obtain rfl : b = m := by omega
      have hL2 : n - nyr a - mon a b < mdy a b := by have := hL.2 rfl; omega
      clear hL hlt
      go_wp2_with (go_at_call 73; refine (HY.out _).mono ?_; rintro e w' ⟨rfl, rfl⟩)
      exact bodyPost_ret (v := .tuple #[.int .i64 a, .int .i64 b, .int .i64 (n - nyr a - mon a b + 1), .int .i64 0]) (by simp [results, Tryz.results72, go_sem]) rfl ⟨by rw [HD.out], rfl⟩
theorem rciv_any (n : Int) (w : World) (h : vdB n = true) : Calls Tryz.prog 72 #[.int .i64 n] w fun e w' => e = .returned (.tuple #[.int .i64 (civY n), .int .i64 (civM n), .int .i64 (civD n), .int .i64 0]) ∧ w = w' := rciv_yes n _ _ _ w (civ_is h)
theorem ret_two {a b c d : Int} (h1 : a = c) (h2 : b = d) : Ending.returned (.tuple #[.int .i64 a, .int .i64 b]) = .returned (.tuple #[.int .i64 c, .int .i64 d]) := by rw [h1, h2]
/- The month that lies k months after that of n. -/
def amT (n k : Int) : Int := 12 * civY n + civM n - 1 + k
def nearB (k : Int) : Bool := decide (-3600 ≤ k) && decide (k ≤ 3600)
theorem nearB_iff {k : Int} : nearB k = true ↔ -3600 ≤ k ∧ k ≤ 3600 := by simp [nearB]
def adY (n k : Int) : Int := amT n k / 12
def adM (n k : Int) : Int := amT n k % 12 + 1
def adD (n k : Int) : Int := min (civD n) (dys (adY n k) (adM n k))
def adB (n k : Int) : Bool := vdB n && nearB k
def adN (n k : Int) : Int := if adB n k then ofN (adY n k) (adM n k) (adD n k) else 0
def adE (n k : Int) : Int := if adB n k then ofE (adY n k) (adM n k) (adD n k) else 2
theorem no_days {Y M e : Int} (h : dys Y M = 0) : ofN Y M e = 0 ∧ ofE Y M e = 2 := by
 have hd : dayB Y M e = false := by
  cases hc : dayB Y M e
  ·rfl
  ·have := dayB_yes hc; omega
 unfold ofN ofE
 rw [hd]
 exact ⟨rfl, rfl⟩
theorem radd_no (n k : Int) (w : World) (h : vdB n = false) : Calls Tryz.prog 104 #[.int .i64 n, .int .i64 k] w fun e w' => e = .returned (.tuple #[.int .i64 (adN n k), .int .i64 (adE n k)]) ∧ w = w' := by
 have hv := fun w => rciv_no n w h
 rw [show adN n k = 0 by unfold adN adB; rw [h]; rfl, show adE n k = 2 by unfold adE adB; rw [h]; rfl]
 have HV := Lib.hid hv
 clear hv h
 go_enter Tryz.func104, Tryz.ntmps104
 go_wp2_with (go_at_call 72; refine (HV.out _).mono ?_; rintro e w' ⟨rfl, rfl⟩)
 go_ret2
 exact ⟨rfl, rfl⟩
theorem radd_far (n k : Int) (w : World) (h : vdB n = true) (hk : nearB k = false) : Calls Tryz.prog 104 #[.int .i64 n, .int .i64 k] w fun e w' => e = .returned (.tuple #[.int .i64 (adN n k), .int .i64 (adE n k)]) ∧ w = w' := by
 have hv := fun w => rciv_any n w h
 rw [show adN n k = 0 by unfold adN adB; rw [h, hk]; rfl, show adE n k = 2 by unfold adE adB; rw [h, hk]; rfl]
 have hk2 : k < -3600 ∨ ¬ k < -3600 ∧ 3600 < k := by
  have h2 : ¬ (-3600 ≤ k ∧ k ≤ 3600) := fun e => by rw [nearB_iff.2 e] at hk; cases hk
  omega
 have HV := Lib.hid hv
 clear hv h hk
 rcases hk2 with hk2 | ⟨hk2, hk3⟩
 all_goals
  go_enter Tryz.func104, Tryz.ntmps104
  go_wp2_with (go_at_call 72; refine (HV.out _).mono ?_; rintro e w' ⟨rfl, rfl⟩)
  go_ret2
  exact ⟨rfl, rfl⟩
theorem radd_near (n k : Int) (w : World) (h : vdB n = true) (hk : nearB k = true) : Calls Tryz.prog 104 #[.int .i64 n, .int .i64 k] w fun e w' => e = .returned (.tuple #[.int .i64 (adN n k), .int .i64 (adE n k)]) ∧ w = w' := by
 have hv := fun w => rciv_any n w h
 rw [show adN n k = ofN (adY n k) (adM n k) (adD n k) by unfold adN adB; rw [h, hk]; rfl, show adE n k = ofE (adY n k) (adM n k) (adD n k) by unfold adE adB; rw [h, hk]; rfl]
 obtain ⟨y0, y1, m0, m1, d0, d1, -⟩ := civ_is h
 obtain ⟨k0, k1⟩ := nearB_iff.1 hk
 have hmd := mdy_bd (civY n) (civM n)
 have hdy := dys_bd (adY n k) (adM n k)
 have hno : inYM (adY n k) (adM n k) = false → ∀ e, ofN (adY n k) (adM n k) e = 0 ∧ ofE (adY n k) (adM n k) e = 2 := fun h e => no_days (dys_out h)
 have hin : inYM (adY n k) (adM n k) = false → (adY n k < 1900 ∨ 2199 < adY n k) := fun hi => by
  have h2 : ¬ (1900 ≤ adY n k ∧ adY n k ≤ 2199 ∧ 1 ≤ adM n k ∧ adM n k ≤ 12) := fun e => by rw [inYM_iff.2 e] at hi; cases hi
  have h3 : 0 ≤ amT n k % 12 ∧ amT n k % 12 < 12 := by omega
  have h4 : adM n k = amT n k % 12 + 1 := rfl
  omega
 have hin2 : inYM (adY n k) (adM n k) = true → (1900 ≤ adY n k ∧ adY n k ≤ 2199) := fun hi => by
  have := inYM_iff.1 hi
  omega
 cases hi : inYM (adY n k) (adM n k)
 ·rw [(hno hi _).1, (hno hi _).2]
  have hx : adY n k < 1900 ∨ ¬ adY n k < 1900 ∧ 2199 < adY n k := by have := hin hi; omega
  unfold adY amT at hx
  clear hno hin hin2 hi hdy hmd
  generalize civY n = y at *
  generalize civM n = m at *
  generalize civD n = d at *
  have HV := Lib.hid hv
  clear hv h hk
  rcases hx with hx | ⟨hx, hx2⟩
  all_goals
   go_enter Tryz.func104, Tryz.ntmps104
   go_wp2_with (go_at_call 72; refine (HV.out _).mono ?_; rintro e w' ⟨rfl, rfl⟩)
   go_ret2
   exact ⟨rfl, rfl⟩
 ·obtain ⟨z0, z1⟩ := hin2 hi
  clear hno hin hin2 hi
  unfold adD adY adM amT at *
  generalize civY n = y at *
  generalize civM n = m at *
  generalize civD n = d at *
  have HV := Lib.hid hv
  clear hv h hk
  go_enter Tryz.func104, Tryz.ntmps104
  go_wp2_with (first | (go_at_call 72; refine (HV.out _).mono ?_; rintro e w' ⟨rfl, rfl⟩) | (go_at_call 73; refine (rdays_any _ _ _).mono ?_; rintro e w' ⟨rfl, rfl⟩) | (go_at_call 103; refine (dtrof_any _ _ _ _).mono ?_; rintro e w' ⟨rfl, rfl⟩))
  all_goals
   go_ret2
   exact ⟨ret_two (by congr 1; omega) (by congr 1; omega), rfl⟩
theorem dtradd_any (n k : Int) (w : World) : Calls Tryz.prog 104 #[.int .i64 n, .int .i64 k] w fun e w' => e = .returned (.tuple #[.int .i64 (adN n k), .int .i64 (adE n k)]) ∧ w = w' := by
 cases h : vdB n
 ·exact radd_no n k w h
 ·cases hk : nearB k
  ·exact radd_far n k w h hk
  ·exact radd_near n k w h hk
open Go.Lib (decDigits)
def padk : Nat → Nat → List UInt8
 | 0, _ => []
 | k + 1, r => padk k (r / 10) ++ [UInt8.ofNat (48 + r % 10)]
def codes (l : List UInt8) : List Nat := l.map (·.toNat)
def bt (s : ByteArray) (i : Nat) : UInt8 := s.data.toList.getD i 0
theorem of_civ {n y m d : Int} (h : IsCiv n y m d) : ofN y m d = n ∧ ofE y m d = 0 := by
 unfold ofN ofE
 rw [dayB_of h]
 exact ⟨h.eq.symm, rfl⟩
theorem add_small {n y m d k : Int} (h : IsCiv n y m d) (hd : d ≤ 28) (hk : nearB k = true) : adN n k = ofN ((12 * y + m - 1 + k) / 12) ((12 * y + m - 1 + k) % 12 + 1) d ∧ adE n k = ofE ((12 * y + m - 1 + k) / 12) ((12 * y + m - 1 + k) % 12 + 1) d := by
 have hv := vdB_iff.2 h.bd
 obtain ⟨e1, e2, e3⟩ := civ_eq h
 unfold adN adE adB adD adY adM amT
 rw [hv, hk, e1, e2, e3]
 simp only [Bool.and_true, if_true]
 generalize (12 * y + m - 1 + k) / 12 = Y
 generalize (12 * y + m - 1 + k) % 12 + 1 = M
 cases hi : inYM Y M
 ·have e := dys_out hi
  exact ⟨by rw [(no_days e).1, (no_days e).1], by rw [(no_days e).2, (no_days e).2]⟩
 ·have e := dys_in hi
  have hb := mdy_bd Y M
  rw [e, Int.min_eq_left (by omega)]
  exact ⟨rfl, rfl⟩
def dgT (k : Nat) (n : Int) : ByteArray := ⟨(padk k n.toNat).toArray⟩
def civT (y m d : Int) : ByteArray := dgT 4 y ++ ⟨#[45]⟩ ++ dgT 2 m ++ ⟨#[45]⟩ ++ dgT 2 d
def txT (n : Int) : ByteArray := if vdB n then civT (civY n) (civM n) (civD n) else ⟨#[]⟩
def mno (y m : Int) : Int := 12 * y + m - 1
def mfst (T : Int) : Int := nyr (T / 12) + mon (T / 12) (T % 12 + 1)
def mln (T : Int) : Int := mdy (T / 12) (T % 12 + 1)
theorem mln_bd (T : Int) : 28 ≤ mln T ∧ mln T ≤ 31 := mdy_bd _ _
theorem mfst_succ (T : Int) (h : 22800 ≤ T) : mfst (T + 1) = mfst T + mln T := by
 unfold mfst mln
 have s := mon_succ (T / 12) (T % 12 + 1) (by omega) (by omega)
 by_cases h1 : T % 12 = 11
 ·rw [show (T + 1) / 12 = T / 12 + 1 by omega, show (T + 1) % 12 + 1 = 1 by omega, mon_1, nyr_succ (T / 12) (by omega)]
  rw [show T % 12 + 1 + 1 = 13 by omega, mon_13] at s
  omega
 ·rw [show (T + 1) / 12 = T / 12 by omega, show (T + 1) % 12 + 1 = T % 12 + 1 + 1 by omega, s]
  omega
theorem mfst_step (S : Int) (k : Nat) (h : 22800 ≤ S) : mfst S + 28 * k ≤ mfst (S + k) := by
 induction k with
 | zero => simp
 | succ k ih =>
  have h1 := mfst_succ (S + k) (by omega)
  have h2 := mln_bd (S + k)
  rw [show S + ((k + 1 : Nat) : Int) = S + k + 1 by omega, h1]
  omega
theorem mfst_mono {S T : Int} (h : 22800 ≤ S) (h1 : S ≤ T) : mfst S + 28 * (T - S) ≤ mfst T := by
 have h2 := mfst_step S (T - S).toNat h
 have h3 : ((T - S).toNat : Int) = T - S := Int.toNat_of_nonneg (by omega)
 rw [h3, show S + (T - S) = T by omega] at h2
 exact h2
theorem mfst_0 : mfst 22800 = -25567 := by decide
theorem mfst_end : mfst 26400 = 84006 := by decide
theorem mfst_bd {T : Int} (h : 22800 ≤ T) (h1 : T ≤ 26400) : -25567 ≤ mfst T ∧ mfst T ≤ 84006 := by
 have a := mfst_mono (Int.le_refl 22800) h
 have b := mfst_mono h h1
 rw [mfst_0] at a
 rw [mfst_end] at b
 omega
theorem mfst_civ {T d : Int} (h : 22800 ≤ T) (h1 : T ≤ 26399) (d0 : 1 ≤ d) (d1 : d ≤ mln T) : IsCiv (mfst T + d - 1) (T / 12) (T % 12 + 1) d :=
 ⟨by omega, by omega, by omega, by omega, d0, d1, rfl⟩
theorem mfst_one {T : Int} (h : 22800 ≤ T) (h1 : T ≤ 26399) : IsCiv (mfst T) (T / 12) (T % 12 + 1) 1 := by
 have := mfst_civ h h1 (Int.le_refl 1) (by have := mln_bd T; omega)
 rwa [show mfst T + 1 - 1 = mfst T by omega] at this
def mth (n : Int) : Int := mno (civY n) (civM n)
theorem mth_is {n : Int} (h : vdB n = true) : 22800 ≤ mth n ∧ mth n ≤ 26399 ∧ mfst (mth n) ≤ n ∧ n < mfst (mth n + 1) := by
 have hc := civ_is h
 have y0 := hc.y0
 have y1 := hc.y1
 have m0 := hc.m0
 have m1 := hc.m1
 have d0 := hc.d0
 have d1 := hc.d1
 have e : mth n = 12 * civY n + civM n - 1 := rfl
 have e1 : mth n / 12 = civY n := by omega
 have e2 : mth n % 12 + 1 = civM n := by omega
 have s := mfst_succ (mth n) (by omega)
 have f : mfst (mth n) = nyr (civY n) + mon (civY n) (civM n) := by unfold mfst; rw [e1, e2]
 have g : mln (mth n) = mdy (civY n) (civM n) := by unfold mln; rw [e1, e2]
 have q := hc.eq
 unfold dno at q
 refine ⟨by omega, by omega, by omega, by omega⟩
def fiB (y m p : Int) : Bool := inYM y m && (decide (22800 ≤ mno y m + p) && decide (mno y m + p ≤ 26399))
theorem fiB_iff {y m p : Int} : fiB y m p = true ↔ (1900 ≤ y ∧ y ≤ 2199 ∧ 1 ≤ m ∧ m ≤ 12) ∧ 22800 ≤ mno y m + p ∧ mno y m + p ≤ 26399 := by
 unfold fiB
 rw [Bool.and_eq_true, Bool.and_eq_true, inYM_iff, decide_eq_true_eq, decide_eq_true_eq]
def fiN (y m p : Int) : Int := if fiB y m p then mfst (mno y m + p) else 0
def fiE (y m p : Int) : Int := if fiB y m p then 0 else 2
theorem day_one (y m : Int) : dayB y m 1 = inYM y m := by
 unfold dayB
 cases h : inYM y m
 ·rw [dys_out h]; rfl
 ·have := mdy_bd y m
  rw [dys_in h, decide_eq_true (show (1 : Int) ≤ 1 by omega), decide_eq_true (show (1 : Int) ≤ mdy y m by omega)]
  rfl
theorem fi_none {y m : Int} (p : Int) (h : inYM y m = false) : ofN y m 1 = 0 ∧ ofE y m 1 = 2 ∧ fiN y m p = 0 ∧ fiE y m p = 2 := by
 unfold ofN ofE fiN fiE fiB
 rw [day_one, h]
 exact ⟨rfl, rfl, rfl, rfl⟩
theorem fi_some {y m : Int} (p : Int) (h : inYM y m = true) : ofN y m 1 = mfst (mno y m) ∧ ofE y m 1 = 0 ∧ adN (mfst (mno y m)) p = fiN y m p ∧ adE (mfst (mno y m)) p = fiE y m p := by
 obtain ⟨y0, y1, m0, m1⟩ := inYM_iff.1 h
 have e : mno y m = 12 * y + m - 1 := rfl
 have e1 : mno y m / 12 = y := by omega
 have e2 : mno y m % 12 + 1 = m := by omega
 have hc := mfst_one (T := mno y m) (by omega) (by omega)
 rw [e1, e2] at hc
 obtain ⟨o1, o2⟩ := of_civ hc
 refine ⟨o1, o2, ?_⟩
 have hv := vdB_iff.2 hc.bd
 obtain ⟨c1, c2, c3⟩ := civ_eq hc
 cases hp : nearB p
 ·have hf : fiB y m p = false := by
   cases hf : fiB y m p
   ·rfl
   ·have := (fiB_iff.1 hf).2
    have h2 : ¬ (-3600 ≤ p ∧ p ≤ 3600) := fun e => by rw [nearB_iff.2 e] at hp; cases hp
    omega
  unfold adN adE adB fiN fiE
  rw [hv, hp, hf]
  exact ⟨rfl, rfl⟩
 ·have hs := add_small hc (by omega) hp
  rw [hs.1, hs.2]
  have ek : 12 * y + m - 1 + p = mno y m + p := rfl
  rw [ek]
  cases hf : fiB y m p
  ·have hi : inYM ((mno y m + p) / 12) ((mno y m + p) % 12 + 1) = false := by
    cases hi : inYM ((mno y m + p) / 12) ((mno y m + p) % 12 + 1)
    ·rfl
    ·have h3 := inYM_iff.1 hi
     rw [fiB_iff.2 ⟨⟨y0, y1, m0, m1⟩, by omega, by omega⟩] at hf
     cases hf
   unfold fiN fiE
   rw [hf, (no_days (dys_out hi)).1, (no_days (dys_out hi)).2]
   exact ⟨rfl, rfl⟩
  ·obtain ⟨-, a, b⟩ := fiB_iff.1 hf
   obtain ⟨o3, o4⟩ := of_civ (mfst_one a b)
   unfold fiN fiE
   rw [hf, o3, o4]
   exact ⟨rfl, rfl⟩
/- Calendars. -/
def clV (y m k : Int) : Bool := decide (1 ≤ k) && (decide (k ≤ 120) && fiB y m (k - 1))
theorem clV_iff {y m k : Int} : clV y m k = true ↔ (1 ≤ k ∧ k ≤ 120) ∧ (1900 ≤ y ∧ y ≤ 2199 ∧ 1 ≤ m ∧ m ≤ 12) ∧ mno y m + k ≤ 26400 := by
 unfold clV
 rw [Bool.and_eq_true, Bool.and_eq_true, decide_eq_true_eq, decide_eq_true_eq, fiB_iff]
 have e : mno y m = 12 * y + m - 1 := rfl
 omega
def clE (y m k p : Int) : Int := if clV y m k then (if 0 ≤ p ∧ p < k then 0 else 2) else 1
theorem clE_bad {y m k : Int} (p : Int) (h : clV y m k = false) : clE y m k p = 1 := by unfold clE; rw [h]; rfl
theorem clE_out {y m k p : Int} (h : clV y m k = true) (hp : ¬ (0 ≤ p ∧ p < k)) : clE y m k p = 2 := by unfold clE; rw [h, if_pos rfl, if_neg hp]
theorem clE_in {y m k p : Int} (h : clV y m k = true) (hp : 0 ≤ p ∧ p < k) : clE y m k p = 0 := by unfold clE; rw [h, if_pos rfl, if_pos hp]
theorem clE_three (y m k p : Int) : (clV y m k = false ∧ clE y m k p = 1) ∨ (clV y m k = true ∧ ¬ (0 ≤ p ∧ p < k) ∧ clE y m k p = 2) ∨ (clV y m k = true ∧ (0 ≤ p ∧ p < k) ∧ clE y m k p = 0) := by
 cases h : clV y m k
 ·exact .inl ⟨rfl, clE_bad p h⟩
 ·by_cases hp : 0 ≤ p ∧ p < k
  ·exact .inr (.inr ⟨rfl, hp, clE_in h hp⟩)
  ·exact .inr (.inl ⟨rfl, hp, clE_out h hp⟩)
theorem cl_month {y m k p : Int} (h : clV y m k = true) (hp : 0 ≤ p ∧ p < k) : 22800 ≤ mno y m + p ∧ mno y m + p ≤ 26399 ∧ fiB y m p = true := by
 have h1 := clV_iff.1 h
 have e : mno y m = 12 * y + m - 1 := rfl
 have a : 22800 ≤ mno y m + p := by omega
 have b : mno y m + p ≤ 26399 := by omega
 exact ⟨a, b, fiB_iff.2 ⟨h1.2.1, a, b⟩⟩
def pdF (y m k p : Int) : Int := if clE y m k p = 0 then mfst (mno y m + p) else 0
def pdL (y m k p : Int) : Int := if clE y m k p = 0 then mfst (mno y m + p + 1) - 1 else 0
def pdY (y m k p : Int) : Int := if clE y m k p = 0 then p / 12 else 0
def pdB (y m k p : Int) : Int := if clE y m k p = 0 then mfst (mno y m + p - p % 12) else 0
def pdP (y m k p : Int) : Int := if clE y m k p = 0 ∧ 12 ≤ p then p - p % 12 - 1 else 0
def pdPE (y m k p : Int) : Int := if clE y m k p = 0 then (if p < 12 then 8 else 0) else clE y m k p
def pdT (y m k p : Int) : ByteArray := if clE y m k p = 0 then (txT (mfst (mno y m + p))).extract 0 7 else ⟨#[]⟩
def inP (y m k n : Int) : Bool := vdB n && (decide (0 ≤ mth n - mno y m) && decide (mth n - mno y m < k))
def prE (y m k n : Int) : Int := if clV y m k then (if inP y m k n then 0 else 2) else 1
def prN (y m k n : Int) : Int := if clV y m k && inP y m k n then mth n - mno y m else 0
theorem inP_iff {y m k n : Int} : inP y m k n = true ↔ vdB n = true ∧ 0 ≤ mth n - mno y m ∧ mth n - mno y m < k := by
 unfold inP
 rw [Bool.and_eq_true, Bool.and_eq_true, decide_eq_true_eq, decide_eq_true_eq]
theorem per_at {y m k n : Int} (h : inP y m k n = true) : (0 ≤ mth n - mno y m ∧ mth n - mno y m < k) ∧ mfst (mno y m + (mth n - mno y m)) ≤ n ∧ n < mfst (mno y m + (mth n - mno y m) + 1) := by
 obtain ⟨hv, a, b⟩ := inP_iff.1 h
 obtain ⟨-, -, c, d⟩ := mth_is hv
 rw [show mno y m + (mth n - mno y m) = mth n by omega]
 exact ⟨⟨a, b⟩, c, d⟩
def allC (p : UInt8 → Bool) (s : ByteArray) : Bool := s.data.toList.all p
theorem tl_at (s : ByteArray) (k : Nat) (h : k < s.size) : s.data.toList[k]'(by simpa using h) = s[k] := by simp; rfl
theorem allC_no {p : UInt8 → Bool} {s : ByteArray} {k : Nat} (h : k < s.size) (hd : p (s[k]'h) = false) : allC p s = false := by
 cases ha : allC p s
 ·rfl
 ·unfold allC at ha
  rw [List.all_eq_true] at ha
  have := ha _ (List.getElem_mem (l := s.data.toList) (n := k) (by simpa using h))
  rw [tl_at s k h, hd] at this
  cases this
theorem allC_yes {p : UInt8 → Bool} {s : ByteArray} (h : ∀ j, (h2 : j < s.size) → p (s[j]'h2) = true) : allC p s = true := by
 unfold allC
 rw [List.all_eq_true]
 intro c hc
 obtain ⟨j, hj, rfl⟩ := List.getElem_of_mem hc
 rw [tl_at s j (by simpa using hj)]
 exact h j (by simpa using hj)
def capB (b : UInt8) : Bool := decide (65 ≤ b.toNat) && decide (b.toNat ≤ 90)
def letB (b : UInt8) : Bool := capB b || (decide (97 ≤ b.toNat) && decide (b.toNat ≤ 122))
def digB (b : UInt8) : Bool := decide (48 ≤ b.toNat) && decide (b.toNat ≤ 57)
def namB (b : UInt8) : Bool := letB b || (digB b || decide (b.toNat = 45))
def curB (s : ByteArray) : Bool := decide (s.size = 3) && allC capB s
def frsB (s : ByteArray) : Bool := if h : 0 < s.size then letB (s[0]'h) else false
def nameB (s : ByteArray) : Bool := decide (s.size ≤ 16) && (frsB s && allC namB s)
theorem curB_no {s : ByteArray} {k : Nat} (h : k < s.size) (hd : capB (s[k]'h) = false) : curB s = false := by
 unfold curB; rw [allC_no h hd]; simp
theorem nameB_no {s : ByteArray} {k : Nat} (h : k < s.size) (hd : namB (s[k]'h) = false) : nameB s = false := by
 unfold nameB; rw [allC_no h hd]; simp
theorem nameB_fr {s : ByteArray} (h : 0 < s.size) (hd : letB (s[0]'h) = false) : nameB s = false := by
 unfold nameB frsB; rw [dif_pos h, hd]; simp
theorem nameB_long {s : ByteArray} (h : 16 < s.size) : nameB s = false := by
 unfold nameB; rw [decide_eq_false (by omega)]; rfl
theorem nameB_nil {s : ByteArray} (h : s.size = 0) : nameB s = false := by
 unfold nameB frsB; rw [dif_neg (by omega)]; simp
theorem nameB_yes {s : ByteArray} (h0 : 0 < s.size) (h : s.size ≤ 16) (hf : letB (s[0]'h0) = true) (ha : ∀ j, (h2 : j < s.size) → namB (s[j]'h2) = true) : nameB s = true := by
 unfold nameB frsB; rw [decide_eq_true h, dif_pos h0, hf, allC_yes ha]; rfl
def basB (a : Acc) : Bool := if a.kind = 1 ∨ a.kind = 2 then decide (a.basis = 1) || decide (a.basis = 3) else if a.kind = 3 then decide (a.basis = 3) else decide (a.basis = 2)
def pbsB (a : Acc) : Bool := if a.kind = 1 ∨ a.kind = 2 then !decide (a.basis = 2) else if a.kind = 3 then decide (a.basis = 3) else decide (a.basis = 2)
theorem bas_eq {a : Acc} (h : kinB true a = true) : pbsB a = basB a := by
 unfold pbsB basB
 split
 ·have h := kinB_is h
  have e1 : loB true = 1 := rfl
  have e2 : hiB true = 3 := rfl
  rw [e1, e2] at h
  have h1 : a.basis = 1 ∨ a.basis = 2 ∨ a.basis = 3 := by omega
  rcases h1 with h1 | h1 | h1 <;> rw [h1] <;> rfl
 ·rfl
def chaB (L : List Acc) : Bool := vB L true && L.all basB
theorem vB_kin {L : List Acc} (h : vB L true = true) : ∀ a ∈ L, kinB true a = true := by
 unfold vB kindsB at h
 simp only [Bool.and_eq_true] at h
 exact List.all_eq_true.1 h.1.1.2
def rlK (i : Nat) : Int := ([1, 1, 1, 1, 3, 3, 3, 3, 3, 4, 4, 4, 5, 5, 5] : List Int).getD i 0
def rlB (i : Nat) : Int := ([3, 3, 3, 1, 3, 3, 3, 3, 3, 2, 2, 2, 2, 2, 2] : List Int).getD i 0
def chkR (L : List Acc) (R : List Int) (i : Nat) : Bool := (fnd L (R.getD i 0)).isSome && (decide ((fndA L (R.getD i 0)).kind = rlK i) && decide ((fndA L (R.getD i 0)).basis = rlB i))
def dsR (R : List Int) (i : Nat) : Bool := allTo (fun k => !decide (R.getD k 0 = R.getD i 0)) i
def rlsB (L : List Acc) (R : List Int) : Bool := allTo (chkR L R) 15 && allTo (dsR R) 15
structure RI (R : List Int) (k m : Nat) (S : Int → Bool) : Prop where
 mem : ∀ x, S x = true ↔ ∃ i, i < k ∧ R.getD i 0 = x
 le : m ≤ k
 iff : m = k ↔ allTo (dsR R) k = true
theorem RI.start {R : List Int} : RI R 0 0 (fun _ => false) := ⟨fun x => by simp, Nat.le_refl _, by simp [allTo]⟩
theorem dsR_is {R : List Int} {i : Nat} : dsR R i = true ↔ ∀ k, k < i → R.getD k 0 ≠ R.getD i 0 := by
 unfold dsR
 rw [allTo_is]
 exact ⟨fun h k hk => by have := h k hk; simpa using this, fun h k hk => by have := h k hk; simpa using this⟩
theorem RI.step {R : List Int} {k m : Nat} {S : Int → Bool} {x : Int} (h : RI R k m S) (hx : R.getD k 0 = x) :
  RI R (k + 1) (if S x = true then m else m + 1) (fun a => decide (a = x) || S a) := by
 have hd : dsR R k = !S x := by
  cases hS : S x with
  | true =>
   obtain ⟨i, hi, h1⟩ := (h.mem _).1 hS
   cases hq : dsR R k with
   | false => rfl
   | true => exact absurd (by rw [hx]; exact h1) (dsR_is.1 hq i hi)
  | false =>
   show dsR R k = true
   rw [dsR_is]
   intro i hi h1
   have := (h.mem x).2 ⟨i, hi, by rw [h1, hx]⟩
   rw [hS] at this; cases this
 refine ⟨fun a => ?_, ?_, ?_⟩
 ·simp only [Bool.or_eq_true, decide_eq_true_eq, h.mem]
  constructor
  ·rintro (rfl | ⟨i, hi, h1⟩)
   ·exact ⟨k, by omega, hx⟩
   ·exact ⟨i, by omega, h1⟩
  ·rintro ⟨i, hi, h1⟩
   rcases Nat.lt_or_ge i k with h3 | h3
   ·exact .inr ⟨i, h3, h1⟩
   ·obtain rfl : i = k := by omega
    exact .inl (by rw [← h1, hx])
 ·have := h.le; split <;> omega
 ·have h1 := h.le
  have h2 := h.iff
  simp only [allTo, Bool.and_eq_true, hd]
  cases hS : S x
  ·simp only [Bool.not_false, and_true, if_neg (show ¬ (false = true) by simp)]
   rw [← h2]; omega
  ·simp only [Bool.not_true, if_true]
   constructor
   ·intro h3; omega
   ·rintro ⟨_, h3⟩; cases h3
def opnP (R : List Int) (c : Int) : Bool := decide (c = R.getD 0 0) || (decide (c = R.getD 3 0) || (decide (c = R.getD 6 0) || (decide (c = R.getD 11 0) || !decide (c ∈ R))))
structure Grp where
 cur : ByteArray
 cy : Int
 cm : Int
 cp : Int
 A : Option Addr
 n : Nat
 c : Nat
 r0 : Int
 r1 : Int
 r2 : Int
 r3 : Int
 r4 : Int
 r5 : Int
 r6 : Int
 r7 : Int
 r8 : Int
 r9 : Int
 r10 : Int
 r11 : Int
 r12 : Int
 r13 : Int
 r14 : Int
 E : Option Addr
 m : Nat
 d : Nat
abbrev grpV (g : Grp) : Value := .agg #[.string g.cur, .int .i64 g.cy, .int .i64 g.cm, .int .i64 g.cp, .slice g.A g.n g.c, .int .i64 g.r0, .int .i64 g.r1, .int .i64 g.r2, .int .i64 g.r3, .int .i64 g.r4, .int .i64 g.r5, .int .i64 g.r6, .int .i64 g.r7, .int .i64 g.r8, .int .i64 g.r9, .int .i64 g.r10, .int .i64 g.r11, .int .i64 g.r12, .int .i64 g.r13, .int .i64 g.r14, .slice g.E g.m g.d]
abbrev rolV (g : Grp) : Value := .agg #[.int .i64 g.r0, .int .i64 g.r1, .int .i64 g.r2, .int .i64 g.r3, .int .i64 g.r4, .int .i64 g.r5, .int .i64 g.r6, .int .i64 g.r7, .int .i64 g.r8, .int .i64 g.r9, .int .i64 g.r10, .int .i64 g.r11, .int .i64 g.r12, .int .i64 g.r13, .int .i64 g.r14]
def Grp.R (g : Grp) : List Int := [g.r0, g.r1, g.r2, g.r3, g.r4, g.r5, g.r6, g.r7, g.r8, g.r9, g.r10, g.r11, g.r12, g.r13, g.r14]
structure GB (w : World) (b : Nat) (g : Grp) : Prop where
 c0 : w.cell? ⟨b, 0, none⟩ = some (.string g.cur)
 c1 : w.cell? ⟨b, 1, none⟩ = some (.int .i64 g.cy)
 c2 : w.cell? ⟨b, 2, none⟩ = some (.int .i64 g.cm)
 c3 : w.cell? ⟨b, 3, none⟩ = some (.int .i64 g.cp)
 c4 : w.cell? ⟨b, 4, none⟩ = some (.slice g.A g.n g.c)
 c5 : w.cell? ⟨b, 5, none⟩ = some (.int .i64 g.r0)
 c6 : w.cell? ⟨b, 6, none⟩ = some (.int .i64 g.r1)
 c7 : w.cell? ⟨b, 7, none⟩ = some (.int .i64 g.r2)
 c8 : w.cell? ⟨b, 8, none⟩ = some (.int .i64 g.r3)
 c9 : w.cell? ⟨b, 9, none⟩ = some (.int .i64 g.r4)
 c10 : w.cell? ⟨b, 10, none⟩ = some (.int .i64 g.r5)
 c11 : w.cell? ⟨b, 11, none⟩ = some (.int .i64 g.r6)
 c12 : w.cell? ⟨b, 12, none⟩ = some (.int .i64 g.r7)
 c13 : w.cell? ⟨b, 13, none⟩ = some (.int .i64 g.r8)
 c14 : w.cell? ⟨b, 14, none⟩ = some (.int .i64 g.r9)
 c15 : w.cell? ⟨b, 15, none⟩ = some (.int .i64 g.r10)
 c16 : w.cell? ⟨b, 16, none⟩ = some (.int .i64 g.r11)
 c17 : w.cell? ⟨b, 17, none⟩ = some (.int .i64 g.r12)
 c18 : w.cell? ⟨b, 18, none⟩ = some (.int .i64 g.r13)
 c19 : w.cell? ⟨b, 19, none⟩ = some (.int .i64 g.r14)
 c20 : w.cell? ⟨b, 20, none⟩ = some (.slice g.E g.m g.d)
 lt : b < w.heap.size
section
variable {w w' : World} {b : Nat} {g : Grp} {e : Ent}
theorem GB.up (h : GB w b g) (hb : Below w.heap.size w w') : GB w' b g :=
 ⟨(hb.cell (p := ⟨b, 0, none⟩) h.lt).trans h.c0, (hb.cell (p := ⟨b, 1, none⟩) h.lt).trans h.c1, (hb.cell (p := ⟨b, 2, none⟩) h.lt).trans h.c2, (hb.cell (p := ⟨b, 3, none⟩) h.lt).trans h.c3, (hb.cell (p := ⟨b, 4, none⟩) h.lt).trans h.c4, (hb.cell (p := ⟨b, 5, none⟩) h.lt).trans h.c5, (hb.cell (p := ⟨b, 6, none⟩) h.lt).trans h.c6, (hb.cell (p := ⟨b, 7, none⟩) h.lt).trans h.c7, (hb.cell (p := ⟨b, 8, none⟩) h.lt).trans h.c8, (hb.cell (p := ⟨b, 9, none⟩) h.lt).trans h.c9, (hb.cell (p := ⟨b, 10, none⟩) h.lt).trans h.c10, (hb.cell (p := ⟨b, 11, none⟩) h.lt).trans h.c11, (hb.cell (p := ⟨b, 12, none⟩) h.lt).trans h.c12, (hb.cell (p := ⟨b, 13, none⟩) h.lt).trans h.c13, (hb.cell (p := ⟨b, 14, none⟩) h.lt).trans h.c14, (hb.cell (p := ⟨b, 15, none⟩) h.lt).trans h.c15, (hb.cell (p := ⟨b, 16, none⟩) h.lt).trans h.c16, (hb.cell (p := ⟨b, 17, none⟩) h.lt).trans h.c17, (hb.cell (p := ⟨b, 18, none⟩) h.lt).trans h.c18, (hb.cell (p := ⟨b, 19, none⟩) h.lt).trans h.c19, (hb.cell (p := ⟨b, 20, none⟩) h.lt).trans h.c20, Nat.lt_of_lt_of_le h.lt hb.size⟩
theorem GB.blk (h : GB w b g) (hk : w'.heap[b]? = w.heap[b]?) : GB w' b g := by
 have e : ∀ i, w'.cell? ⟨b, i, none⟩ = w.cell? ⟨b, i, none⟩ := fun i => by simp only [World.cell?, hk]
 refine ⟨(e 0).trans h.c0, (e 1).trans h.c1, (e 2).trans h.c2, (e 3).trans h.c3, (e 4).trans h.c4, (e 5).trans h.c5, (e 6).trans h.c6, (e 7).trans h.c7, (e 8).trans h.c8, (e 9).trans h.c9, (e 10).trans h.c10, (e 11).trans h.c11, (e 12).trans h.c12, (e 13).trans h.c13, (e 14).trans h.c14, (e 15).trans h.c15, (e 16).trans h.c16, (e 17).trans h.c17, (e 18).trans h.c18, (e 19).trans h.c19, (e 20).trans h.c20, ?_⟩
 have h1 := h.lt
 rcases Nat.lt_or_ge b w'.heap.size with h2 | h2
 ·exact h2
 ·rw [Array.getElem?_eq_none h2, Array.getElem?_eq_getElem h1] at hk; cases hk
theorem gb_new (w : World) (t : TypeId) (g : Grp) : GB (w.alloc (.cells #[.string g.cur, .int .i64 g.cy, .int .i64 g.cm, .int .i64 g.cp, .slice g.A g.n g.c, .int .i64 g.r0, .int .i64 g.r1, .int .i64 g.r2, .int .i64 g.r3, .int .i64 g.r4, .int .i64 g.r5, .int .i64 g.r6, .int .i64 g.r7, .int .i64 g.r8, .int .i64 g.r9, .int .i64 g.r10, .int .i64 g.r11, .int .i64 g.r12, .int .i64 g.r13, .int .i64 g.r14, .slice g.E g.m g.d] t)) w.heap.size g := by
 constructor
 case lt => simp
 all_goals (simp only [World.cell?]; rw [heap_alloc_new]; rfl)
abbrev eV (e : Ent) : Value := .agg #[.string e.nm, .string e.cur, .slice e.A e.n e.c, .slice e.B e.m e.d, .bool e.jt]
structure GrK (w : World) (g : Grp) (L : List Acc) (G : List Ent) : Prop where
 ln : L.length = g.n
 lg : G.length = g.m
 hz : AccAt w g.A L
 he : EntsAt w g.E G
 hk : EntsK w G
theorem GrK.up {L : List Acc} {G : List Ent} (h : GrK w g L G) (hb : Below w.heap.size w w') : GrK w' g L G := ⟨h.ln, h.lg, h.hz.up hb, h.he.up hb, h.hk.up hb⟩
end
structure GrW (g : Grp) (L : List Acc) (G : List Ent) : Prop where
 cur : g.cur.size ≤ maxLen
 rol : ∀ x ∈ g.R, (Lit.int .i64 x).wf = true
 txt : ∀ e ∈ G, e.nm.size ≤ maxLen ∧ e.cur.size ≤ maxLen
structure Sm (g : Grp) (G : List Ent) : Prop where
 n : g.n ≤ 60
 m : g.m ≤ 14
 e : ∀ e ∈ G, e.n ≤ 60 ∧ e.m ≤ 60
theorem ent_at {w : World} {X : Option Addr} {G : List Ent} (h : EntsAt w X G) {k : Nat} (hk : k < G.length) : ∃ b off, X = some ⟨b, off, none⟩ ∧ b < w.heap.size ∧ E5 w b (off + k * 5) (G.getD k ent0) := by
 obtain ⟨b, off, e, hlt, hc⟩ := h (by omega)
 exact ⟨b, off, e, hlt, hc k hk⟩
def dsN (G : List Ent) (i : Nat) : Bool := allTo (fun k => !decide ((G.getD k ent0).nm = (G.getD i ent0).nm)) i
theorem dsN_is {G : List Ent} {i : Nat} : dsN G i = true ↔ ∀ k, k < i → (G.getD k ent0).nm ≠ (G.getD i ent0).nm := by
 unfold dsN
 rw [allTo_is]
 exact ⟨fun h k hk => by have := h k hk; simpa using this, fun h k hk => by have := h k hk; simpa using this⟩
theorem gb_range {w : World} {b : Nat} {g : Grp} (h : GB w b g) : w.rangeAt b 0 [.string g.cur, .int .i64 g.cy, .int .i64 g.cm, .int .i64 g.cp, .slice g.A g.n g.c, .int .i64 g.r0, .int .i64 g.r1, .int .i64 g.r2, .int .i64 g.r3, .int .i64 g.r4, .int .i64 g.r5, .int .i64 g.r6, .int .i64 g.r7, .int .i64 g.r8, .int .i64 g.r9, .int .i64 g.r10, .int .i64 g.r11, .int .i64 g.r12, .int .i64 g.r13, .int .i64 g.r14, .slice g.E g.m g.d] := by
 intro j v hv
 rw [Nat.zero_add]
 match j, hv with
 | 0, hv => injection hv with hv; rw [← hv]; exact h.c0
 | 1, hv => injection hv with hv; rw [← hv]; exact h.c1
 | 2, hv => injection hv with hv; rw [← hv]; exact h.c2
 | 3, hv => injection hv with hv; rw [← hv]; exact h.c3
 | 4, hv => injection hv with hv; rw [← hv]; exact h.c4
 | 5, hv => injection hv with hv; rw [← hv]; exact h.c5
 | 6, hv => injection hv with hv; rw [← hv]; exact h.c6
 | 7, hv => injection hv with hv; rw [← hv]; exact h.c7
 | 8, hv => injection hv with hv; rw [← hv]; exact h.c8
 | 9, hv => injection hv with hv; rw [← hv]; exact h.c9
 | 10, hv => injection hv with hv; rw [← hv]; exact h.c10
 | 11, hv => injection hv with hv; rw [← hv]; exact h.c11
 | 12, hv => injection hv with hv; rw [← hv]; exact h.c12
 | 13, hv => injection hv with hv; rw [← hv]; exact h.c13
 | 14, hv => injection hv with hv; rw [← hv]; exact h.c14
 | 15, hv => injection hv with hv; rw [← hv]; exact h.c15
 | 16, hv => injection hv with hv; rw [← hv]; exact h.c16
 | 17, hv => injection hv with hv; rw [← hv]; exact h.c17
 | 18, hv => injection hv with hv; rw [← hv]; exact h.c18
 | 19, hv => injection hv with hv; rw [← hv]; exact h.c19
 | 20, hv => injection hv with hv; rw [← hv]; exact h.c20
 | j + 21, hv => simp at hv
theorem gb_load {w : World} {b : Nat} {g : Grp} (h : GB w b g) : (Instr.loadAt 29 (.pointer (some ⟨b, 0, none⟩))).run Tryz.prog w = .ok (grpV g) w :=
 run_loadAt_mid w b 0 29 _ _ (gb_range h) Tryz.underlying29 rfl (by kernel_rfl)
theorem gb_roles {w : World} {b : Nat} {g : Grp} (h : GB w b g) : (Instr.loadAt 26 (.pointer (some ⟨b, 5, none⟩))).run Tryz.prog w = .ok (rolV g) w :=
 run_loadAt_mid w b 5 26 [.int .i64 g.r0, .int .i64 g.r1, .int .i64 g.r2, .int .i64 g.r3, .int .i64 g.r4, .int .i64 g.r5, .int .i64 g.r6, .int .i64 g.r7, .int .i64 g.r8, .int .i64 g.r9, .int .i64 g.r10, .int .i64 g.r11, .int .i64 g.r12, .int .i64 g.r13, .int .i64 g.r14] _ (fun j v hv => by
  have hj : j < 15 := by
   rcases Nat.lt_or_ge j 15 with hj | hj
   ·exact hj
   ·rw [List.getElem?_eq_none (by simpa using hj)] at hv; cases hv
  have h1 := gb_range h (5 + j) v (by
   have e : ([.string g.cur, .int .i64 g.cy, .int .i64 g.cm, .int .i64 g.cp, .slice g.A g.n g.c, .int .i64 g.r0, .int .i64 g.r1, .int .i64 g.r2, .int .i64 g.r3, .int .i64 g.r4, .int .i64 g.r5, .int .i64 g.r6, .int .i64 g.r7, .int .i64 g.r8, .int .i64 g.r9, .int .i64 g.r10, .int .i64 g.r11, .int .i64 g.r12, .int .i64 g.r13, .int .i64 g.r14, .slice g.E g.m g.d] : List Value)[5 + j]? = ([.int .i64 g.r0, .int .i64 g.r1, .int .i64 g.r2, .int .i64 g.r3, .int .i64 g.r4, .int .i64 g.r5, .int .i64 g.r6, .int .i64 g.r7, .int .i64 g.r8, .int .i64 g.r9, .int .i64 g.r10, .int .i64 g.r11, .int .i64 g.r12, .int .i64 g.r13, .int .i64 g.r14] : List Value)[j]? := by
    match j, hj with
    | 0, _ | 1, _ | 2, _ | 3, _ | 4, _ | 5, _ | 6, _ | 7, _ | 8, _ | 9, _ | 10, _ | 11, _ | 12, _ | 13, _ | 14, _ => rfl
   rw [e]; exact hv)
  rw [Nat.zero_add] at h1
  exact h1) Tryz.underlying26 rfl (by kernel_rfl)
theorem wpList_load_is {P : Program} {w : World} {ops : Array Oper} {rest : List Oper} {o : Oper} {a : Act} {Q : Exit → Act → World → Prop} (hg : o.guard = none) (ty : TypeId) (x : Operand) (hop : o.op = .load ty x) (p : Value) (hx : a.eval x = p) (V : Value)
  (hl : (Instr.loadAt ty p).run P w = .ok V w) (h : wpList P ops Q rest (a.put o.dst V) w) : wpList P ops Q (o :: rest) a w := by
 refine wpList_plain hg fun K hK => ?_
 unfold Oper.wp execOp
 simp only [hop, hx, Sem.run_bind, hl, Sem.run_pure, Result.andThen_ok]
 exact hK _ _ h
theorem gb_lV {w : World} {b : Nat} {g : Grp} {V : Value} (h : GB w b g) (hV : V = grpV g) : (Instr.loadAt 29 (.pointer (some ⟨b, 0, none⟩))).run Tryz.prog w = .ok V w := hV ▸ gb_load h
theorem wpList_load_if {P : Program} {w : World} {ops : Array Oper} {rest : List Oper} {o : Oper} {a : Act} {Q : Exit → Act → World → Prop} (hw : Region.wanted o (yielded ops a.tmps) = true) (ty : TypeId) (x : Operand) (hop : o.op = .load ty x) (p : Value) (hx : a.eval x = p) (V : Value)
  (hl : (Instr.loadAt ty p).run P w = .ok V w) (h : wpList P ops Q rest (a.put o.dst V) w) : wpList P ops Q (o :: rest) a w := by
 refine wpList_step fun K hK => ?_
 rw [hw, if_pos rfl]
 unfold Oper.wp execOp
 simp only [hop, hx, Sem.run_bind, hl, Sem.run_pure, Result.andThen_ok]
 exact hK _ _ h
open Go.RowKit
theorem step_append_row {P : Program} {ops : Array Oper} {o : Oper} {a : Act} {tm : Array Value} {w : World} {K : Act → World → Prop} {Q : Exit → Act → World → Prop} {E : Prop} (hgd : o.guard = none) (s x : Operand) (t : TypeId)
  (ho : o.op = .call { callee := .builtin .append, args := #[s, x], argTypes := #[t, t] })
  (base : Nat) (e : TypeId) (i : TypeInfo) (z : Value) (size bytes : Nat) (ht : P.underlying t = some (.slice e)) (hi : P.info? e = some i) (hz : i.zero = some z)
  (hsize : i.size = size) (hby : i.bytes = bytes) (hzs : z.cells.size = size) (hsz : 0 < size)
  (v : Value) (n : Nat) (xs : List Value) (hs : a.eval s = v) (hown : w.ownsRow base e size v n xs)
  (X : Option Addr) (m c : Nat) (news : List Value) (hx : a.eval x = .slice X m c) (hl : news.length = m * size) (hnews : 0 < m → ∃ ad, X = some ad ∧ ∀ j u, news[j]? = some u → w.cell? (ad.add j) = some u) (h1 : ∀ u ∈ news, u.oneCell' = true)
  (h63 : n + m ≤ maxLen) (hbytes : (n + m) * bytes ≤ 140737488355328) (hbase : base ≤ w.heap.size)
  (h : ∀ v' w', Hid (w'.ownsRow base e size v' (n + m) (xs ++ news)) → Hid (w.grownBy w' v.ownBlock) → K (a.put o.dst v') w') :
  if Region.wanted o (yielded ops tm) = true then Oper.wp P o a w K Q else E := by
 have hw1 : ∀ y, Region.wanted o y = true := fun y => by simp [Region.wanted, hgd]
 rw [if_pos (hw1 _)]
 rcases Nat.eq_zero_or_pos m with h0 | h0
 ·subst h0
  have hne : news = [] := List.eq_nil_of_length_eq_zero (by rw [hl]; simp)
  subst hne
  have hrun : (Builtin.append_ #[t, t] o.type #[v, .slice X 0 c]).run P w = .ok v w := by
   rcases hown.2 with ⟨rfl, h9⟩ | ⟨g, cap, cur, rfl, hb, hg, hn, hcap, hcs, hcur⟩
   ·cases X <;> simp [Builtin.append_, run_underlying ht, sizeOf, typeInfo, hi, Builtin.lenOf, Builtin.firstCells, loadCells, loadCellsFrom]
   ·cases X <;> simp [Builtin.append_, run_underlying ht, sizeOf, typeInfo, hi, Builtin.lenOf, Builtin.firstCells, storeCells, loadCells, loadCellsFrom, hn]
  unfold Oper.wp
  simp [execOp, ho, resolve, invoke, builtin, hs, hx, hrun, Result.andThen]
  exact h v w (Lib.hid (by simpa using hown)) (Lib.hid ⟨rfl, rfl, rfl, Nat.le_refl _, fun _ _ _ => rfl⟩)
 ·obtain ⟨ad, rfl, hn2⟩ := hnews h0
  obtain ⟨v', w', hr, h2, h3, h4, h5⟩ := run_append_own_at (P := P) w base t o.type e i z size bytes ht hi hz hsize hby hzs hsz v n xs hown ad m c news hl hn2 h1 h63 hbytes hbase
  unfold Oper.wp execOp
  simp only [ho, resolve, invoke, builtin, Sem.run_bind, Sem.run_pure, Result.andThen_ok, List.map_toArray, List.map_cons, List.map_nil, hs, hx, hr]
  exact h v' w' (Lib.hid h2) (Lib.hid h3)
abbrev wr (x : Int) : Int := wrap64 x
theorem wr_emod (x : Int) : (wr x) % 18446744073709551616 = x % 18446744073709551616 := by
 unfold Go.Proofs.YtbcphcheomojdaaGreat.wr wrap64
 omega
theorem wr_eq_of {x y : Int} (h : x % 18446744073709551616 = y % 18446744073709551616) : wr x = wr y := by
 show Go.Proofs.YtbcphcheomojdaaGreat.wr x = Go.Proofs.YtbcphcheomojdaaGreat.wr y
 unfold Go.Proofs.YtbcphcheomojdaaGreat.wr wrap64
 omega
theorem wr_add (x y : Int) : wr (wr x + y) = wr (x + y) := wr_eq_of (by have := wr_emod x; omega)
theorem wr_small {x : Int} (h1 : -9223372036854775808 ≤ x) (h2 : x ≤ 9223372036854775807) : wr x = x := by
 unfold Go.Proofs.YtbcphcheomojdaaGreat.wr wrap64
 omega
theorem wr_range (x : Int) : -9223372036854775808 ≤ wr x ∧ wr x ≤ 9223372036854775807 := by
 unfold Go.Proofs.YtbcphcheomojdaaGreat.wr wrap64
 omega
theorem wr_zero : wr 0 = 0 := wr_small (by omega) (by omega)
def kOf (l : Lnk) : Int × Int := (l.frm, l.since)
def amtK (L : List Lnk) (k : Int × Int) : Int := (L.map fun l => if kOf l = k then l.tgt else 0).sum
def sumT (L : List Lnk) : Int := (L.map (·.tgt)).sum
def ltK (a b : Int × Int) : Prop := a.1 < b.1 ∨ a.1 = b.1 ∧ a.2 < b.2
instance (a b : Int × Int) : Decidable (ltK a b) := by unfold ltK; infer_instance
theorem ltK_irrefl (a : Int × Int) : ¬ ltK a a := by unfold ltK; omega
theorem ltK_trans {a b c : Int × Int} (h : ltK a b) (h2 : ltK b c) : ltK a c := by unfold ltK at *; omega
theorem ltK_tri {a b : Int × Int} (h : ¬ ltK a b) (h2 : ¬ ltK b a) : a = b := by
 unfold ltK at *
 exact Prod.ext (by omega) (by omega)
def AscL (N : List Lnk) : Prop := N.Pairwise fun a b => ltK (kOf a) (kOf b)
def IsNrm (L N : List Lnk) : Prop := AscL N ∧ ∀ l, l ∈ N ↔ l.tgt = wr (amtK L (kOf l)) ∧ l.tgt ≠ 0
theorem AscL.nodup {N : List Lnk} (h : AscL N) : N.Nodup := h.imp fun {a b} hab e => by subst e; exact ltK_irrefl _ hab
theorem isnrm_unique {L N M : List Lnk} (h1 : IsNrm L N) (h2 : IsNrm L M) : N = M := by
 have hp : N.Perm M := (List.perm_ext_iff_of_nodup h1.1.nodup h2.1.nodup).2 fun l => by rw [h1.2, h2.2]
 exact List.Perm.eq_of_pairwise (le := fun a b => ltK (kOf a) (kOf b)) (fun a b _ _ x y => absurd (ltK_trans x y) (ltK_irrefl _)) h1.1 h2.1 hp
theorem amtK_nil (k : Int × Int) : amtK [] k = 0 := rfl
theorem amtK_cons (l : Lnk) (L : List Lnk) (k : Int × Int) : amtK (l :: L) k = (if kOf l = k then l.tgt else 0) + amtK L k := by simp [amtK]
theorem amtK_append (L M : List Lnk) (k : Int × Int) : amtK (L ++ M) k = amtK L k + amtK M k := by simp [amtK]
theorem amtK_none : ∀ {L : List Lnk} {k : Int × Int}, k ∉ L.map kOf → amtK L k = 0
 | [], _, _ => rfl
 | a :: L, k, h => by
  simp only [List.map_cons, List.mem_cons, not_or] at h
  rw [amtK_cons, if_neg (fun e => h.1 e.symm), amtK_none h.2]; rfl
theorem isnrm_zero {L N : List Lnk} (h : IsNrm L N) (h0 : ∀ k, amtK L k = 0) : N = [] := by
 rcases N with _ | ⟨a, N⟩
 ·rfl
 ·have := (h.2 a).1 (by simp)
  rw [h0, wr_zero] at this
  exact absurd this.1 this.2
theorem infoLn : (Tryz.prog.info? 66).map (fun i => (i.zero, i.size, i.bytes)) = some (some (.agg #[.int .i64 0, .int .i64 0, .int .i64 0]), 3, 24) := by kernel_rfl
theorem step_app_lines {P : Program} {ops : Array Oper} {o : Oper} {a : Act} {tm : Array Value} {w : World} {K : Act → World → Prop} {Q : Exit → Act → World → Prop} {E : Prop} (hgd : o.guard = none) (s x : Operand) (t : TypeId)
  (ho : o.op = .call { callee := .builtin .append, args := #[s, x], argTypes := #[t, t] })
  (base : Nat) (e : TypeId) (i : TypeInfo) (bytes : Nat) (ht : P.underlying t = some (.slice e)) (hi : P.info? e = some i) (hz : i.zero = some (.agg #[.int .i64 0, .int .i64 0, .int .i64 0])) (hsize : i.size = 3) (hby : i.bytes = bytes) (hb8 : bytes ≤ 24)
  (v : Value) (L : List Lnk) (hs : a.eval s = v) (hown : OwnL e w base v L) (X : Option Addr) (m c : Nat) (M : List Lnk) (hm : M.length = m) (hx : a.eval x = .slice X m c) (hX : LnkAt w X M)
  (hlen : L.length + m ≤ 100000000) (hbase : base ≤ w.heap.size)
  (h : ∀ v' w', Hid (OwnL e w' base v' (L ++ M)) → Hid (w.grownBy w' v.ownBlock) → Below base w w' → K (a.put o.dst v') w') :
  if Region.wanted o (yielded ops tm) = true then Oper.wp P o a w K Q else E := by
 subst hm
 have hbb : (L.length + M.length) * bytes ≤ (L.length + M.length) * 24 := Nat.mul_le_mul_left _ hb8
 refine step_append_row hgd s x t ho base e i (.agg #[.int .i64 0, .int .i64 0, .int .i64 0]) 3 bytes ht hi hz hsize hby rfl (by decide) v L.length (L.flatMap celL) hs hown X M.length c (M.flatMap celL) hx (celL_len M) ?_ ?_ (by unfold maxLen; omega) (by omega) hbase ?_
 ·intro h0
  obtain ⟨b, off, rfl, hbw, hcs⟩ := hX h0
  refine ⟨_, rfl, fun j u hj => ?_⟩
  have hjl : j < M.length * 3 := by
   rcases Nat.lt_or_ge j (M.length * 3) with h1 | h1
   ·exact h1
   ·rw [List.getElem?_eq_none (by rw [celL_len]; exact h1)] at hj; cases hj
  have hadd : (⟨b, off, none⟩ : Addr).add j = ⟨b, off + j, none⟩ := by unfold Addr.add; split <;> simp_all
  rw [hadd, ← hj]
  have h3 : j % 3 = 0 ∨ j % 3 = 1 ∨ j % 3 = 2 := by omega
  rcases h3 with h2 | h2 | h2
  ·obtain ⟨q, rfl⟩ : ∃ q, j = q * 3 := ⟨j / 3, by omega⟩
   rw [(celL_get M q (by omega)).1]
   exact (hcs q (by omega)).c0
  ·obtain ⟨q, rfl⟩ : ∃ q, j = q * 3 + 1 := ⟨j / 3, by omega⟩
   rw [(celL_get M q (by omega)).2.1, ← Nat.add_assoc]
   exact (hcs q (by omega)).c1
  ·obtain ⟨q, rfl⟩ : ∃ q, j = q * 3 + 2 := ⟨j / 3, by omega⟩
   rw [(celL_get M q (by omega)).2.2, ← Nat.add_assoc]
   exact (hcs q (by omega)).c2
 ·intro u hu
  obtain ⟨d, _, hu⟩ := List.mem_flatMap.1 hu
  simp [celL] at hu
  rcases hu with rfl | rfl | rfl <;> rfl
 ·intro v' w' h2 h3
  refine h v' w' (Lib.hid ?_) h3 ((Below.refl base w).grown h3.out hbase (fun j hj => (World.ownsRow.lt hown j hj).1))
  have h4 := h2.out
  rw [← List.flatMap_append, ← List.length_append] at h4
  exact h4
theorem lnk_one {w : World} {g : Nat} {l : Lnk} (h : LB w g l) : LnkAt w (some ⟨g, 0, none⟩) [l] := fun _ => ⟨g, 0, rfl, h.lt, fun i hi => by
 obtain rfl : i = 0 := by simp at hi; exact hi
 exact h.cells⟩
theorem LB.drew {w : World} {g : Nat} {l : Lnk} (h : LB w g l) : LB w.drew g l := ⟨⟨h.cells.c0, h.cells.c1, h.cells.c2⟩, h.lt⟩
structure Ety where
 id : Int
 ent : Int
 day : Int
 kind : Int
 of_ : Int
 txt : ByteArray
 A : Option Addr
 n : Nat
 c : Nat
def grpC (g : Grp) : List Value := [.string g.cur, .int .i64 g.cy, .int .i64 g.cm, .int .i64 g.cp, .slice g.A g.n g.c, .int .i64 g.r0, .int .i64 g.r1, .int .i64 g.r2, .int .i64 g.r3, .int .i64 g.r4, .int .i64 g.r5, .int .i64 g.r6, .int .i64 g.r7, .int .i64 g.r8, .int .i64 g.r9, .int .i64 g.r10, .int .i64 g.r11, .int .i64 g.r12, .int .i64 g.r13, .int .i64 g.r14, .slice g.E g.m g.d]
def etyC (x : Ety) : List Value := [.int .i64 x.id, .int .i64 x.ent, .int .i64 x.day, .int .i64 x.kind, .int .i64 x.of_, .string x.txt, .slice x.A x.n x.c]
abbrev etyV (x : Ety) : Value := .agg #[.int .i64 x.id, .int .i64 x.ent, .int .i64 x.day, .int .i64 x.kind, .int .i64 x.of_, .string x.txt, .slice x.A x.n x.c]
def cdC (g : Grp) (x : Ety) : List Value := grpC g ++ etyC x
def cdV (g : Grp) (x : Ety) : Value := .agg (cdC g x).toArray
theorem grpV_is (g : Grp) : grpV g = .agg (grpC g).toArray := rfl
theorem etyV_is (x : Ety) : etyV x = .agg (etyC x).toArray := rfl
structure Rg (w : World) (b : Nat) (cs : List Value) : Prop where
 cell : ∀ j v, cs[j]? = some v → w.cell? ⟨b, j, none⟩ = some v
 lt : b < w.heap.size
theorem Rg.up {w w' : World} {b : Nat} {cs : List Value} (h : Rg w b cs) (hb : Below w.heap.size w w') : Rg w' b cs :=
 ⟨fun j v hj => (hb.cell (p := ⟨b, j, none⟩) h.lt).trans (h.cell j v hj), Nat.lt_of_lt_of_le h.lt hb.size⟩
theorem rg_new (w : World) (t : TypeId) (cs : List Value) : Rg (w.alloc (.cells cs.toArray t)) w.heap.size cs := by
 refine ⟨fun j v hj => ?_, by simp⟩
 simp only [World.cell?]
 rw [heap_alloc_new]
 simpa using hj
theorem Rg.load {P : Program} {w : World} {b : Nat} {cs : List Value} (h : Rg w b cs) (off : Nat) (ty : TypeId) (sub : List Value) (hs : sub = (cs.drop off).take sub.length) (d : TypeDesc) (hu : P.underlying ty = some d) (hd : d.isRow = true) (hi : (P.info? ty).map (·.size) = some sub.length) :
  (Instr.loadAt ty (.pointer (some ⟨b, off, none⟩))).run P w = .ok (.agg sub.toArray) w :=
 run_loadAt_mid w b off ty sub d (fun j v hj => h.cell _ _ (by
  rw [hs, List.getElem?_take] at hj
  split at hj
  ·rwa [List.getElem?_drop] at hj
  ·cases hj)) hu hd hi
theorem wpList_box_rg {P : Program} {w : World} {ops : Array Oper} {rest : List Oper} {o : Oper} {a : Act} {Q : Exit → Act → World → Prop} (hg : o.guard = none) (ty : TypeId) (x : Operand) (hop : o.op = .box ty x) (V : Value) (hx : a.eval x = V) (cs : List Value) (hV : V = .agg cs.toArray)
  (h : ∀ b W, Hid (Rg W b cs) → Hid (Below w.heap.size w W) → wpList P ops Q rest (a.put o.dst (.pointer (some ⟨b, 0, none⟩))) W) : wpList P ops Q (o :: rest) a w := by
 refine wpList_plain hg fun K hK => ?_
 have hrun : (Instr.box ty V).run P w = .ok (.pointer (some ⟨w.heap.size, 0, none⟩)) (w.alloc (.cells cs.toArray ty)) := by
  rw [hV]
  simp [Instr.box, newVar, newRow, Value.cells]
 unfold Oper.wp execOp
 simp only [hop, hx, Sem.run_bind, hrun, Sem.run_pure, Result.andThen_ok]
 exact hK _ _ (h _ _ (Lib.hid (rg_new w ty cs)) (Lib.hid (below_alloc_new _)))
theorem wpList_build_is {P : Program} {w : World} {ops : Array Oper} {rest : List Oper} {o : Oper} {a : Act} {Q : Exit → Act → World → Prop} (hg : o.guard = none) (ty : TypeId) (ps : Array (Nat × Operand)) (hop : o.op = .build ty ps) (L : List (Nat × Value)) (hL : (ps.toList.map fun p => (p.1, a.eval p.2)) = L) (V : Value)
  (hl : (Instr.build ty L.toArray).run P w = .ok V w) (h : wpList P ops Q rest (a.put o.dst V) w) : wpList P ops Q (o :: rest) a w := by
 refine wpList_plain hg fun K hK => ?_
 have he : (ps.map fun p => (p.1, a.eval p.2)) = L.toArray := by rw [← hL]; exact Array.ext' (by rw [Array.toList_map])
 have hl2 : (Instr.build ty (ps.map fun x => match x with | (i, x) => (i, a.eval x))).run P w = .ok V w := by
  rw [← he] at hl; exact hl
 unfold Oper.wp execOp
 simp only [hop, Sem.run_bind, hl2, Sem.run_pure, Result.andThen_ok]
 exact hK _ _ h
open Go.ChangeShapes Go.WideShapes Go.MapKept Go.ChangeMaps Go.WideElems Go.Maps
section
variable {H : Type} {P : Program} {w : World} {t k e : TypeId} {R : Value → Option (DataW H × List MemPlace)} {b : Nat} {es : Array MapEntry} {clock : Nat}
theorem entry_any (K : Keyed P k) (ht : P.underlying t = some (.map k e)) {z : Value} (hz : ∀ u : World, (zeroValue e).run P u = .ok z u) (hb : w.heap[b]? = some (.map es clock)) (F : Fit P k R es clock)
  {key : Value} {kl : Lit} (hkey : keyOf P k key = some kl) :
  ∃ (v0 : Value) (st : Nat) (es1 : Array MapEntry) (clock1 : Nat), (Instr.mapEntry t (.map (some b)) key).run P w = .ok (.tuple #[v0, goInt st]) (setBlock w b (.map es1 clock1)) ∧
   (Instr.lookup t (.map (some b)) key false).run P w = .ok v0 w ∧ (∀ u : World, u.heap[b]? = some (.map es1 clock1) → (Instr.lookup t (.map (some b)) key false).run P u = .ok v0 u) ∧
   ∀ (w2 : World) (val : Value), w2.heap[b]? = some (.map es1 clock1) → ∃ es' clock', (Instr.entryStore t (.map (some b)) (goInt st) val).run P w2 = .ok () (setBlock w2 b (.map es' clock')) ∧
    (Instr.mapUpdate t (.map (some b)) key val).run P w = .ok () (setBlock w b (.map es' clock')) := by
 obtain ⟨s1, s2, _⟩ := F.stamped
 rcases K.find w hkey es.toList F.keys with ⟨h1, h2⟩ | ⟨j, e0, h1, h2, h3⟩
 ·have hks : ∀ x ∈ (es.push ⟨key, z, clock⟩).toList, ∃ l, keyOf P k x.key = some l := by
   intro x hx
   simp only [Array.toList_push, List.mem_append, List.mem_singleton] at hx
   rcases hx with hx | rfl
   ·exact F.keys x hx
   ·exact ⟨kl, hkey⟩
  refine ⟨z, clock, es.push ⟨key, z, clock⟩, clock + 1, ?_, ?_, ?_, ?_⟩
  ·simp [Instr.mapEntry, run_underlying ht, MapKept.run_getObj_map hb, K.check w false hkey, h1, hz, MapKept.run_setObj_map _ hb, Result.andThen, setBlock]
  ·simp [Instr.lookup, run_underlying ht, MapKept.run_getObj_map hb, K.check w _ hkey, h1, hz, Result.andThen]
  ·intro u hu
   rcases K.find u hkey _ hks with ⟨_, g2⟩ | ⟨i, e1, g1, g2, g3⟩
   ·exact absurd rfl (g2 ⟨key, z, clock⟩ (by simp))
   ·have hz1 : e1.val = z := by
     have hm := List.mem_of_getElem? g2
     simp only [Array.toList_push, List.mem_append, List.mem_singleton] at hm
     rcases hm with hm | rfl
     ·exact absurd g3 (h2 e1 hm)
     ·rfl
    have h8 : (es.push { key := key, val := z, born := clock }).toList = es.toList ++ [{ key := key, val := z, born := clock }] := by simp
    rw [h8] at g1
    simp [Instr.lookup, run_underlying ht, MapKept.run_getObj_map hu, K.check u _ hkey, g1, hz1, Result.andThen]
  ·intro w2 val hw2
   refine ⟨es.push ⟨key, val, clock⟩, clock + 1, ?_, ?_⟩
   ·have hidx : (es.push ⟨key, z, clock⟩).findIdx? (fun e => ((e.born : Nat) : Int) == ((clock : Nat) : Int)) = some es.size := by
     rw [findIdx_arr]
     have := findIdx_born (l := (es.push ⟨key, z, clock⟩).toList) (j := es.size) (e0 := ⟨key, z, clock⟩) (by
      simp only [Array.toList_push, List.map_append, List.map_cons, List.map_nil]
      refine List.nodup_append.2 ⟨s2, by simp, fun a ha c hc e1 => ?_⟩
      simp only [List.mem_singleton] at hc
      obtain ⟨x, hx, rfl⟩ := List.mem_map.1 ha
      have := s1 x hx
      omega) (by simp)
     exact this
    have hmod : (es.push ⟨key, z, clock⟩).modify es.size (fun e => { e with val := val }) = es.push ⟨key, val, clock⟩ := by
     apply Array.ext'
     rw [Array.toList_modify, Array.toList_push, Array.toList_push, ← Array.length_toList, modify_last]
    simp [Instr.entryStore, MapKept.run_getObj_map hw2, asInt, asIntOf, goInt, hidx, hmod, MapKept.run_setObj_map _ hw2, Result.andThen, setBlock]
   ·simp [Instr.mapUpdate, run_underlying ht, MapKept.run_getObj_map hb, K.check w false hkey, h1, MapKept.run_setObj_map _ hb, Result.andThen, setBlock]
 ·have hj : es[j]? = some e0 := by simpa using h2
  have hsame : es.modify j (fun e => { e with key := key }) = es := by
   apply Array.ext'
   rw [Array.toList_modify, modify_eq_set _ _ _ _ h2]
   have : ({ e0 with key := key } : MapEntry) = e0 := by rw [← h3]
   rw [this]
   exact set_self _ _ _ h2
  refine ⟨e0.val, e0.born, es, clock, ?_, ?_, ?_, ?_⟩
  ·simp [Instr.mapEntry, run_underlying ht, MapKept.run_getObj_map hb, K.check w false hkey, h1, hj, h3, K.stays w hkey, hsame, MapKept.run_setObj_map _ hb, Result.andThen, setBlock]
  ·simp [Instr.lookup, run_underlying ht, MapKept.run_getObj_map hb, K.check w _ hkey, h1, Result.andThen]
  ·intro u hu
   rcases K.find u hkey es.toList F.keys with ⟨_, g2⟩ | ⟨i, e1, g1, g2, g3⟩
   ·exact absurd h3 (g2 e0 (List.mem_of_getElem? h2))
   ·have he : e1 = e0 := by
     by_cases hij : i = j
     ·subst hij; rw [h2] at g2; exact (Option.some.inj g2).symm
     ·have := other_key F h2 g2 hij
      rw [g3, h3] at this
      exact absurd rfl this
    simp [Instr.lookup, run_underlying ht, MapKept.run_getObj_map hu, K.check u _ hkey, g1, he, Result.andThen]
  ·intro w2 val hw2
   refine ⟨es.modify j (fun e' => { e' with key := key, val := val }), clock, ?_, ?_⟩
   ·have hidx : es.findIdx? (fun e => ((e.born : Nat) : Int) == ((e0.born : Nat) : Int)) = some j := by
     rw [findIdx_arr]
     exact findIdx_born s2 h2
    have hmod : es.modify j (fun e => { e with val := val }) = es.modify j (fun e' => { e' with key := key, val := val }) := by
     apply Array.ext'
     rw [Array.toList_modify, Array.toList_modify, modify_eq_set _ _ _ _ h2, modify_eq_set _ _ _ _ h2, ← h3]
    simp [Instr.entryStore, MapKept.run_getObj_map hw2, asInt, asIntOf, goInt, hidx, hmod, MapKept.run_setObj_map _ hw2, Result.andThen, setBlock]
   ·simp [Instr.mapUpdate, run_underlying ht, MapKept.run_getObj_map hb, K.check w false hkey, h1, hj, h3, K.stays w hkey, MapKept.run_setObj_map _ hb, Result.andThen, setBlock]
end
open Go.RowKit Go.Maps Go.ChangeMaps
abbrev pairV (k : Int × Int) : Value := .agg #[.int .i64 k.1, .int .i64 k.2]
def okK (k : Int × Int) : Prop := (Lit.int .i64 k.1).wf = true ∧ (Lit.int .i64 k.2).wf = true
def klit (k : Int × Int) : Lit := .string (keyBytes [.int .i64 k.1, .int .i64 k.2])
abbrev heldP : Value → Option (DataW Value × List MemPlace) := fun v => some (.held v, [])
set_option maxRecDepth 100000 in
theorem pk_keyed : Keyed Tryz.prog 33 := Keyed.of_law (deep_law_gate laid_out (by decide +kernel) (by decide +kernel) (by kernel_rfl) (by kernel_rfl))
set_option maxRecDepth 100000 in
theorem pair_key {k : Int × Int} (h : okK k) : keyOf Tryz.prog 33 (pairV k) = some (klit k) := by
 obtain ⟨ha, hb⟩ := h
 have hc : Tryz.prog.cellsOf 33 = 2 := by kernel_rfl
 have hc3 : Tryz.prog.cellsOf 3 = 1 := by kernel_rfl
 have key : ∀ d, Tryz.prog.keyLits (d + 2) 33 [.int .i64 k.1, .int .i64 k.2] = some [.int .i64 k.1, .int .i64 k.2] := by
  intro d
  simp [Program.keyLits, Tryz.underlying33, Tryz.underlying3, hc, hc3, ha, hb, List.range, List.range.loop]
 have hf : Value.formed Tryz.prog 33 (pairV k) = true := by
  simp [Value.formed, Tryz.underlying33, hc]
 have hk : Tryz.prog.keyType 33 = true := by kernel_rfl
 have h1 : 1 ≤ Tryz.prog.types.size := by decide +kernel
 obtain ⟨n, hn⟩ : ∃ n, Tryz.prog.types.size + 1 = n + 2 := ⟨Tryz.prog.types.size - 1, by omega⟩
 unfold keyOf
 rw [Tryz.underlying33]
 simp only [hk, hf, Bool.and_self, if_true]
 rw [hn]
 show Option.map _ (Tryz.prog.keyLits (n + 2) 33 [.int .i64 k.1, .int .i64 k.2]) = _
 rw [key n]; rfl
set_option maxRecDepth 100000 in
theorem keyLits_int {d : Nat} {x : Value} {l : List Lit} (h : Tryz.prog.keyLits (d + 1) 3 [x] = some l) : ∃ a, x = .int .i64 a ∧ l = [.int .i64 a] ∧ (Lit.int .i64 a).wf = true := by
 unfold Program.keyLits at h
 rw [Tryz.underlying3] at h
 cases x <;> simp at h
 obtain ⟨⟨rfl, h1⟩, rfl⟩ := h
 exact ⟨_, rfl, rfl, h1⟩
set_option maxRecDepth 100000 in
theorem keyLits_pair (n : Nat) (cs : List Value) : Tryz.prog.keyLits (n + 1) 33 cs = if cs.length = 2 then ((List.range 2).mapM fun i => Tryz.prog.keyLits n 3 ((cs.drop (i * 1)).take 1)).map List.flatten else none := by
 have hc : Tryz.prog.cellsOf 33 = 2 := by kernel_rfl
 have hc3 : Tryz.prog.cellsOf 3 = 1 := by kernel_rfl
 conv => lhs; unfold Program.keyLits
 rw [Tryz.underlying33]
 simp only [hc, hc3]
set_option maxRecDepth 100000 in
theorem pair_of_key {v : Value} {l : Lit} (h : keyOf Tryz.prog 33 v = some l) : ∃ k, v = pairV k ∧ l = klit k ∧ okK k := by
 obtain ⟨xs, L, rfl, hl, rfl⟩ := keyOf_top (by rw [Tryz.underlying33]) h
 have h1 : 1 ≤ Tryz.prog.types.size := by decide +kernel
 obtain ⟨n, hn⟩ : ∃ n, Tryz.prog.types.size + 1 = n + 2 := ⟨Tryz.prog.types.size - 1, by omega⟩
 rw [hn, keyLits_pair] at hl
 obtain ⟨cs⟩ := xs
 have hcs : cs.length = 2 := by
  split at hl
  ·assumption
  ·cases hl
 match cs, hcs with
 | [x, y], _ =>
  rw [if_pos (by rfl), Option.map_eq_some_iff] at hl
  obtain ⟨L2, h2, rfl⟩ := hl
  have hr : List.range 2 = [0, 1] := rfl
  rw [hr] at h2
  simp only [List.mapM_cons, List.mapM_nil, Option.bind_eq_bind, Option.bind_eq_some_iff, Option.pure_def, Option.some.injEq] at h2
  obtain ⟨a, ha, b2, ⟨b, hb, c, rfl, rfl⟩, rfl⟩ := h2
  obtain ⟨a, rfl, rfl, wa⟩ := keyLits_int ha
  obtain ⟨b, rfl, rfl, wb⟩ := keyLits_int hb
  exact ⟨(_, _), rfl, rfl, wa, wb⟩
set_option maxRecDepth 100000 in
theorem klit_inj {a b : Int × Int} (ha : okK a) (hb : okK b) (h : klit a = klit b) : a = b := by
 have h1 := pair_key ha
 rw [h] at h1
 have h2 := pk_keyed.inj h1 (pair_key hb)
 simp at h2
 exact Prod.ext h2.1 h2.2
def MapP (w : World) (b n : Nat) (f : Int × Int → Option Int) : Prop := ∃ D : DataW Value, w.ownsMap Tryz.prog 33 heldP b n D ∧ (∀ k, okK k → Maps.has D (klit k) = (f k).isSome ∧ ∀ z, D.atKey (klit k) z = (match f k with | some v => .held (.int .i64 v) | none => z)) ∧ ∀ k, (f k).isSome = true → okK k
section
variable {w w' : World} {b n m : Nat} {f : Int × Int → Option Int}
theorem MapP.blk (h : MapP w b n f) (hk : w'.heap[b]? = w.heap[b]?) : MapP w' b n f := by
 obtain ⟨D, ⟨es, clock, hb, rest⟩, h2⟩ := h
 exact ⟨D, ⟨es, clock, hk.trans hb, rest⟩, h2⟩
theorem MapP.lt (h : MapP w b n f) : b < w.heap.size := by
 obtain ⟨D, h1, _⟩ := h
 exact h1.lt
theorem MapP.up (h : MapP w b n f) (hb : Below w.heap.size w w') : MapP w' b n f := h.blk (hb.block b h.lt)
theorem MapP.made (w : World) : MapP (w.alloc (.map #[] 0)) w.heap.size 0 (fun _ => none) :=
 ⟨.map [], World.ownsMap_made _ _ _ _, fun _ _ => ⟨rfl, fun _ => rfl⟩, fun _ h => by cases h⟩
theorem MapP.ext {g : Int × Int → Option Int} (h : MapP w b n f) (hg : ∀ c, g c = f c) : MapP w b n g := by
 obtain rfl : g = f := funext hg
 exact h
theorem MapP.drew (h : MapP w b n f) : MapP w.drew b n f := h
set_option maxRecDepth 100000 in
theorem MapP.look (h : MapP w b n f) {k : Int × Int} (hk : okK k) : (Instr.lookup 80 (.map (some b)) (pairV k) false).run Tryz.prog w = .ok (.int .i64 ((f k).getD 0)) w := by
 obtain ⟨D, h1, h3, _⟩ := h
 obtain ⟨v, ps, hrun, hv⟩ := h1.lookup pk_keyed Tryz.underlying80 (z := .int .i64 0) (Tryz.zeroValue3 w) (zd := .held (.int .i64 0)) (zp := []) rfl (pair_key hk)
 have he : v = .int .i64 ((f k).getD 0) := by
  rw [(h3 k hk).2] at hv
  simp only [heldP, Option.some.injEq, Prod.mk.injEq] at hv
  have h4 := hv.1
  cases hf : f k with
  | none => rw [hf] at h4; injection h4
  | some u => rw [hf] at h4; injection h4
 rw [hrun, he]
set_option maxRecDepth 100000 in
theorem MapP.entry (h : MapP w b n f) {k : Int × Int} (hk : okK k) (hn : n ≤ 1000000) : ∃ (sv : Value) (W1 : World), (Instr.mapEntry 80 (.map (some b)) (pairV k)).run Tryz.prog w = .ok (.tuple #[.int .i64 ((f k).getD 0), sv]) W1 ∧
  (Instr.lookup 80 (.map (some b)) (pairV k) false).run Tryz.prog W1 = .ok (.int .i64 ((f k).getD 0)) W1 ∧
  ∀ x : Int, ∃ W2, (Instr.entryStore 80 (.map (some b)) sv (.int .i64 x)).run Tryz.prog W1 = .ok () W2 ∧ MapP W2 b (n + 1) (fun q => if q = k then some x else f q) ∧ w.grownBy W2 (some b) := by
 have hlk := h.look hk
 obtain ⟨D, h1, h3, h4⟩ := h
 have h2 := h1.isMap
 obtain ⟨es, clock, hb, F, hes, hD⟩ := h1
 obtain ⟨v0, st, es1, clock1, e1, e2, e3, e4⟩ := entry_any pk_keyed Tryz.underlying80 (z := .int .i64 0) (Tryz.zeroValue3) hb F (pair_key hk)
 rw [hlk] at e2
 obtain rfl : v0 = .int .i64 ((f k).getD 0) := by injection e2 with e2; exact e2.symm
 have hset : (setBlock w b (.map es1 clock1)).heap[b]? = some (.map es1 clock1) := heap_setBlock_same hb _
 refine ⟨_, _, e1, e3 _ hset, fun x => ?_⟩
 obtain ⟨es', clock', e5, e6⟩ := e4 _ (.int .i64 x) hset
 obtain ⟨W2, e7, o2, g2⟩ := World.ownsMap.update (d := .held (.int .i64 x)) (ps := []) (val := .int .i64 x) (R := heldP) ⟨es, clock, hb, F, hes, hD⟩ pk_keyed Tryz.underlying80 (by unfold maxLen; omega) (pair_key hk) rfl
 rw [e7] at e6
 injection e6 with _ e6
 have hss : setBlock (setBlock w b (.map es1 clock1)) b (.map es' clock') = setBlock w b (.map es' clock') := by
  simp [setBlock]
 rw [hss, ← e6] at e5
 refine ⟨W2, e5, ⟨_, o2, fun q hq => ?_, fun q hq => ?_⟩, g2⟩
 ·by_cases hqk : q = k
  ·subst hqk
   simp only [if_true]
   exact ⟨by rw [has_put_same h2 (pk_keyed.key (pair_key hk))]; rfl, fun z => atKey_put_same h2 (pk_keyed.key (pair_key hk)) _ _⟩
  ·simp only [if_neg hqk]
   have hne : klit q ≠ klit k := fun e => hqk (klit_inj hq hk e)
   exact ⟨by rw [has_put_other hne]; exact (h3 q hq).1, fun z => by rw [atKey_put_other hne]; exact (h3 q hq).2 z⟩
 ·by_cases hqk : q = k
  ·subst hqk; exact hk
  ·simp only [if_neg hqk] at hq
   exact h4 q hq
end
def fsum (L : List Lnk) (k : Int × Int) : Option Int := if k ∈ L.map kOf then some (wr (amtK L k)) else none
theorem fsum_getD (L : List Lnk) (k : Int × Int) : (fsum L k).getD 0 = wr (amtK L k) := by
 unfold fsum
 split
 ·rfl
 ·rename_i h
  rw [amtK_none h, wr_zero]; rfl
theorem fsum_snoc (L : List Lnk) (x : Lnk) (q : Int × Int) : fsum (L ++ [x]) q = if q = kOf x then some (wr ((fsum L (kOf x)).getD 0 + x.tgt)) else fsum L q := by
 rw [fsum_getD]
 unfold fsum
 rw [amtK_append, amtK_cons, amtK_nil]
 by_cases h : q = kOf x
 ·subst h
  rw [if_pos (by simp), if_pos rfl, if_pos rfl, wr_add]
  congr 2; omega
 ·have h' : ¬ kOf x = q := fun e => h e.symm
  rw [if_neg h', if_neg h]
  have : (q ∈ (L ++ [x]).map kOf) ↔ q ∈ L.map kOf := by simp [h]
  simp only [this]
  congr 3; omega
open Go.RowKit
theorem sumT_snoc (L : List Lnk) (x : Lnk) : sumT (L ++ [x]) = sumT L + x.tgt := by simp [sumT]
set_option maxRecDepth 20000 in
set_option maxHeartbeats 1600000 in
theorem esum_any (A : Option Addr) (cp : Nat) (L : List Lnk) (w : World) (hz : LnkAt w A L) (hl : L.length ≤ 1000) :
  Calls Tryz.prog 101 #[.slice A L.length cp] w fun e w' => e = .returned (.int .i64 (wr (sumT L))) ∧ Below w.heap.size w w' := by
 have hB := Below.refl w.heap.size w
 obtain ⟨n, hn⟩ : ∃ n, L.length = n := ⟨_, rfl⟩
 rw [hn] at hl ⊢
 have HN := Lib.hid hn
 have HZ := Lib.hid hz
 clear hn hz
 go_enter Tryz.func101, Tryz.ntmps101
 go_wp2_with fail
 go_loopg [3, 8] n (fun kx s3 s8 wr => ∃ k : Nat, s3 = .int .i64 (Go.Proofs.YtbcphcheomojdaaGreat.wr (sumT (L.take k))) ∧ s8 = .int .i64 k ∧ k ≤ n ∧ n - k ≤ kx ∧ Below w.heap.size w wr)
 case atStart => exact ⟨0, by rw [List.take_zero]; exact congrArg _ wr_zero.symm, rfl, by omega, by omega, hB⟩
 case round =>
  clear hB
  obtain ⟨k, rfl, rfl, hk, hkx, hB⟩ := hrel
  by_cases hlt : k < n
  ·have hltz : (k : Int) < (n : Int) := by omega
   obtain ⟨bb, off, rfl, hbw, hcs⟩ := HZ.out (by rw [HN.out]; omega)
   obtain ⟨c0, c1, c2⟩ := (hcs k (by rw [HN.out]; exact hlt)).up hB hbw
   have hst : wrap64 (Go.Proofs.YtbcphcheomojdaaGreat.wr (sumT (L.take k)) + (L.getD k lnk0).tgt) = Go.Proofs.YtbcphcheomojdaaGreat.wr (sumT (L.take (k + 1))) := by
    rw [take_succ_getD (d := lnk0) (show k < L.length by rw [HN.out]; exact hlt), sumT_snoc]
    exact wr_add _ _
   generalize L.getD k lnk0 = x at *
   have HST := Lib.hid hst
   have HB1 := Lib.hid (below_new hB (.cells #[.int .i64 x.frm, .int .i64 x.tgt, .int .i64 x.since] 66))
   obtain ⟨⟨d0, d1, d2⟩, dlt⟩ := lb_new wr 66 x
   simp only [Nat.zero_add] at d0 d1 d2
   clear hcs hst
   generalize Go.Proofs.YtbcphcheomojdaaGreat.wr (sumT (L.take k)) = s at *
   go_wp2_with fail
   go_roundg (n - (k + 1))
   case measure => omega
   case rel => exact ⟨k + 1, by rw [← HST.out], by go_num, by omega, by omega, HB1.out⟩
  ·obtain rfl : k = n := by omega
   have hltz : ¬ (k : Int) < (k : Int) := by omega
   have E : Hid (Go.Proofs.YtbcphcheomojdaaGreat.wr (sumT (L.take k)) = Go.Proofs.YtbcphcheomojdaaGreat.wr (sumT L)) := Lib.hid (by rw [← HN.out, List.take_length])
   generalize Go.Proofs.YtbcphcheomojdaaGreat.wr (sumT (L.take k)) = z at *
   go_wp2_with fail
   go_ret
   exact ⟨by rw [E.out]; rfl, hB⟩
set_option maxRecDepth 20000 in
set_option maxHeartbeats 3200000 in
theorem esumsOf_any (A : Option Addr) (cp : Nat) (L : List Lnk) (w : World) (hz : LnkAt w A L) (hl : L.length ≤ 1000) (hwf : ∀ l ∈ L, okK (kOf l)) :
  Calls Tryz.prog 40 #[.slice A L.length cp] w fun e w' => ∃ b, e = .returned (.map (some b)) ∧ w.heap.size ≤ b ∧ MapP w' b L.length (fsum L) ∧ Below w.heap.size w w' := by
 obtain ⟨s0, hs0⟩ : ∃ s0, w.heap.size = s0 := ⟨_, rfl⟩
 have hB := below_alloc_new (w := w) (.map #[] 0)
 have hM := MapP.made w
 rw [hs0] at hB hM ⊢
 obtain ⟨n, hn⟩ : ∃ n, L.length = n := ⟨_, rfl⟩
 rw [hn] at hl ⊢
 have HN := Lib.hid hn
 have HZ := Lib.hid hz
 have HS0 := Lib.hid hs0
 have HM0 : Hid (MapP (w.alloc (.map #[] 0)) s0 0 (fsum (L.take 0))) := Lib.hid (hM.ext fun c => by rw [List.take_zero]; rfl)
 have HWF := Lib.hid hwf
 clear hn hz hs0 hM hwf
 have hmm := @run_makeMap Tryz.prog
 go_enter Tryz.func40, Tryz.ntmps40
 go_wp2_with fail
 clear hmm
 rw [HS0.out]
 go_loopg [9] n (fun kx s9 wr => ∃ k : Nat, s9 = .int .i64 k ∧ k ≤ n ∧ n - k ≤ kx ∧ Hid (MapP wr s0 k (fsum (L.take k))) ∧ Below s0 w wr)
 case atStart => exact ⟨0, rfl, by omega, by omega, HM0, hB⟩
 case round =>
  clear hB HM0
  obtain ⟨k, rfl, hk, hkx, HM, hB⟩ := hrel
  by_cases hlt : k < n
  ·have hltz : (k : Int) < (n : Int) := by omega
   obtain ⟨bb, off, rfl, hbw, hcs⟩ := HZ.out (by rw [HN.out]; omega)
   rw [HS0.out] at hbw
   obtain ⟨c0, c1, c2⟩ := (hcs k (by rw [HN.out]; exact hlt)).up hB hbw
   have hkl : k < L.length := by rw [HN.out]; exact hlt
   have hok := HWF.out _ (getD_mem_acc (d := lnk0) hkl)
   have hfs : ∀ q, fsum (L.take (k + 1)) q = if q = kOf (L.getD k lnk0) then some (wrap64 ((fsum (L.take k) (kOf (L.getD k lnk0))).getD 0 + (L.getD k lnk0).tgt)) else fsum (L.take k) q := fun q => by
    rw [take_succ_getD (d := lnk0) hkl]
    exact fsum_snoc _ _ q
   generalize L.getD k lnk0 = x at *
   have hsz : s0 ≤ wr.heap.size := by have := hB.size; rw [HS0.out] at this; exact this
   have HB1 := Lib.hid (hB.alloc hsz (.cells #[.int .i64 x.frm, .int .i64 x.tgt, .int .i64 x.since] 66))
   obtain ⟨⟨d0, d1, d2⟩, dlt⟩ := lb_new wr 66 x
   simp only [Nat.zero_add] at d0 d1 d2
   have hM1 := (HM.out.up (below_alloc_new (.cells #[.int .i64 x.frm, .int .i64 x.tgt, .int .i64 x.since] 66))).drew
   have hlk := hM1.look hok
   obtain ⟨sv, W1, e1, e2, e3⟩ := hM1.entry hok (by omega)
   obtain ⟨s, hs⟩ : ∃ s, (fsum (L.take k) (kOf x)).getD 0 = s := ⟨_, rfl⟩
   rw [hs] at hlk e1 e2 hfs
   obtain ⟨W2, e4, hM2, hg2⟩ := e3 (wrap64 (s + x.tgt))
   have HM2 : Hid (MapP W2 s0 (k + 1) (fsum (L.take (k + 1)))) := Lib.hid (hM2.ext hfs)
   have HB2 : Hid (Below s0 w W2) := Lib.hid (HB1.out.drew.grown hg2 (by simp; omega) (fun j hj => by cases hj; exact Nat.le_refl _))
   clear hcs hfs hM1 hM2 hg2 e3 HM hs
   simp only [kOf] at hlk e1 e2
   go_wp2_with fail
   go_region
   go_wp2_with fail
   go_roundg (n - (k + 1))
   case measure => omega
   case rel => exact ⟨k + 1, by go_num, by omega, by omega, HM2, HB2.out⟩
  ·obtain rfl : k = n := by omega
   have hltz : ¬ (k : Int) < (k : Int) := by omega
   have E : Hid (MapP wr s0 k (fsum L)) := Lib.hid (by have h1 : L.take k = L := by { rw [← HN.out, List.take_length] }; rw [← h1]; exact HM.out)
   clear HM
   go_wp2_with fail
   go_ret
   exact ⟨s0, rfl, Nat.le_refl _, E.out, hB⟩
theorem ghasb_any (a : Acc) (w : World) : Calls Tryz.prog 145 #[accV a] w fun e w' => e = .returned (.bool (pbsB a)) ∧ Below w.heap.size w w' := by
 have hB := below_alloc_new (w := w) (.cells #[.int .i64 a.code, .int .i64 a.kind, .int .i64 a.basis, .int .i64 a.par] 130)
 obtain ⟨⟨c0, c1, c2, c3⟩, lt, -⟩ := ab_new w 130 a
 simp only [Nat.zero_add] at c1 c2 c3
 have e2 : (a.basis == 2) = decide (a.basis = 2) := rfl
 have e3 : (a.basis == 3) = decide (a.basis = 3) := rfl
 have e1 : (a.basis == 1) = decide (a.basis = 1) := rfl
 have f2 : (a.basis != 2) = !decide (a.basis = 2) := rfl
 unfold pbsB
 generalize decide (a.basis = 1) = q1 at *
 generalize decide (a.basis = 2) = q2 at *
 generalize decide (a.basis = 3) = q3 at *
 by_cases k1 : a.kind = 1
 ·have g1 : (a.kind == 1) = true := by simp [k1]
  rw [if_pos (.inl k1)]
  clear k1
  go_enter Tryz.func145, Tryz.ntmps145
  go_wp2_with fail
  go_ret
  exact ⟨rfl, hB⟩
 have g1 : (a.kind == 1) = false := by simp [k1]
 by_cases k2 : a.kind = 2
 ·have g2 : (a.kind == 2) = true := by simp [k2]
  rw [if_pos (.inr k2)]
  clear k1 k2
  go_enter Tryz.func145, Tryz.ntmps145
  go_wp2_with fail
  go_ret
  exact ⟨rfl, hB⟩
 have g2 : (a.kind == 2) = false := by simp [k2]
 rw [if_neg (by omega)]
 clear k1 k2
 by_cases k3 : a.kind = 3
 ·have g3 : (a.kind == 3) = true := by simp [k3]
  rw [if_pos k3]
  clear k3
  go_enter Tryz.func145, Tryz.ntmps145
  go_wp2_with fail
  go_ret
  exact ⟨rfl, hB⟩
 ·have g3 : (a.kind == 3) = false := by simp [k3]
  rw [if_neg k3]
  clear k3
  go_enter Tryz.func145, Tryz.ntmps145
  go_wp2_with fail
  go_ret
  exact ⟨rfl, hB⟩
theorem chaB_no {L : List Acc} {k : Nat} (hk : k < L.length) (h : basB (L.getD k acc0) = false) : chaB L = false := by
 unfold chaB
 rw [show L.all basB = false from List.all_eq_false.2 ⟨_, getD_mem_acc hk, by rw [h]; simp⟩]; simp
theorem chaB_end {L : List Acc} (hv : vB L true = true) (h : allTo (fun i => basB (L.getD i acc0)) L.length = true) : chaB L = true := by
 unfold chaB
 rw [hv, show L.all basB = true from all_getD.2 (allTo_is.1 h)]; rfl
set_option maxRecDepth 20000 in
set_option maxHeartbeats 1600000 in
theorem gcha_any (A : Option Addr) (cp : Nat) (L : List Acc) (w : World) (hz : AccAt w A L) (hl : L.length ≤ 1000) :
  Calls Tryz.prog 113 #[.slice A L.length cp] w fun e w' => e = .returned (.bool (chaB L)) ∧ Below w.heap.size w w' := by
 have hB := Below.refl w.heap.size w
 have h1 := fun w h => cvalid8_any A cp L true w h hl
 have hno := fun k => chaB_no (L := L) (k := k)
 have hend := chaB_end (L := L)
 cases hv : vB L true
 ·have E : Hid (chaB L = false) := Lib.hid (by unfold chaB; rw [hv]; rfl)
  rw [hv] at h1
  have H1 := Lib.hid h1
  have HZ := Lib.hid hz
  generalize L.length = n at *
  clear h1 hno hend hz hv
  go_enter Tryz.func113, Tryz.ntmps113
  go_wp2_with (go_at_call 144; refine (H1.out _ HZ.out).mono ?_; rintro e w1 ⟨rfl, hb⟩; replace hB := below_more hB hb; clear hb)
  go_ret
  exact ⟨by rw [E.out]; rfl, hB⟩
 have hkin := vB_kin hv
 have hpk : ∀ k, k < L.length → pbsB (L.getD k acc0) = basB (L.getD k acc0) := fun k hk => bas_eq (hkin _ (getD_mem_acc hk))
 replace hend := hend hv
 rw [hv] at h1
 obtain ⟨P, hP⟩ : ∃ P : Nat → Bool, (fun i => basB (L.getD i acc0)) = P := ⟨_, rfl⟩
 have hPk : ∀ k, basB (L.getD k acc0) = P k := fun k => by rw [← hP]
 rw [hP] at hend
 simp only [hPk] at hno hpk
 obtain ⟨n, hn⟩ : ∃ n, L.length = n := ⟨_, rfl⟩
 obtain ⟨s0, hs0⟩ : ∃ s0, w.heap.size = s0 := ⟨_, rfl⟩
 rw [hn] at hl h1 hno hend hpk ⊢
 rw [hs0] at hB ⊢
 have HN := Lib.hid hn
 have HZ := Lib.hid hz
 have H1 := Lib.hid h1
 have HNo := Lib.hid hno
 have HE := Lib.hid hend
 have HPK := Lib.hid hpk
 have HS0 := Lib.hid hs0
 clear hn hz h1 hno hend hpk hP hPk hv hkin
 go_enter Tryz.func113, Tryz.ntmps113
 go_wp2_with (go_at_call 144; refine (H1.out _ HZ.out).mono ?_; rintro e w1 ⟨rfl, hb⟩; replace hB := hB.trans (hb.mono (by rw [← HS0.out]; exact Nat.le_refl _)); clear hb)
 clear hs0
 go_loopg [10] n (fun kx s10 wr => ∃ k : Nat, s10 = .int .i64 k ∧ k ≤ n ∧ n - k ≤ kx ∧ Hid (allTo P k = true) ∧ Below s0 w wr)
 case atStart => exact ⟨0, rfl, by omega, by omega, Lib.hid rfl, hB⟩
 case round =>
  clear hB
  obtain ⟨k, rfl, hk, hkx, HA, hB⟩ := hrel
  by_cases hlt : k < n
  ·have hltz : (k : Int) < (n : Int) := by omega
   have hsz : s0 ≤ wr.heap.size := by have := hB.size; have := HS0.out; omega
   obtain ⟨b, off, rfl, hbw, hcs⟩ := HZ.out (by rw [HN.out]; omega)
   obtain ⟨c0, c1, c2, c3⟩ := (hcs k (by rw [HN.out]; exact hlt)).up hB (by have := HS0.out; omega)
   have hpk := HPK.out k hlt
   have hno := HNo.out k hlt
   obtain ⟨x, hx⟩ : ∃ x, L.getD k acc0 = x := ⟨_, rfl⟩
   rw [hx] at c0 c1 c2 c3 hpk
   have hX := ab_new wr 130 x
   have hB1 : Below s0 w (wr.alloc (.cells #[.int .i64 x.code, .int .i64 x.kind, .int .i64 x.basis, .int .i64 x.par] 130)) := hB.alloc hsz _
   obtain ⟨⟨z0, z1, z2, z3⟩, zlt, -⟩ := hX
   simp only [Nat.zero_add] at z1 z2 z3
   have hb := fun w => ghasb_any x w
   rw [hpk] at hb
   have hs2 : s0 ≤ (wr.alloc (.cells #[.int .i64 x.code, .int .i64 x.kind, .int .i64 x.basis, .int .i64 x.par] 130)).heap.size := by simp; omega
   have HS2 := Lib.hid hs2
   have HA2 := fun (h : P k = true) => Lib.hid (show allTo P (k + 1) = true by show (allTo P k && P k) = true; rw [HA.out, h]; rfl)
   generalize P k = q at *
   have HB := Lib.hid hb
   clear hx hcs hpk hb hs2 HA
   cases q
   ·have HR := Lib.hid (hno rfl)
    clear hno HA2
    go_wp2_with (go_at_call 145; refine (HB.out _).mono ?_; rintro e w2 ⟨rfl, hb⟩; have hB2 := hB1.trans (hb.mono HS2.out); clear hb)
    go_ret
    exact ⟨by rw [HR.out]; rfl, hB2⟩
   ·have HA3 := HA2 rfl
    clear hno HA2
    go_wp2_with (go_at_call 145; refine (HB.out _).mono ?_; rintro e w2 ⟨rfl, hb⟩; have hB2 := hB1.trans (hb.mono HS2.out); clear hb)
    go_roundg (n - (k + 1))
    case measure => omega
    case rel => exact ⟨k + 1, by go_num, by omega, by omega, HA3, hB2⟩
  ·obtain rfl : k = n := by omega
   have hltz : ¬ (k : Int) < (k : Int) := by omega
   have HR := Lib.hid (HE.out HA.out)
   go_wp2_with fail
   go_ret
   exact ⟨by rw [HR.out]; rfl, hB⟩
set_option maxRecDepth 20000 in
set_option maxHeartbeats 1600000 in
theorem gacct_any (g : Grp) (L : List Acc) (c : Int) (w : World) (hz : AccAt w g.A L) (ln : L.length = g.n) (hl : g.n ≤ 1000) :
  Calls Tryz.prog 147 #[grpV g, .int .i64 c] w fun e w' => e = .returned (.tuple #[accV (fndA L c), .bool (fnd L c).isSome]) ∧ Below w.heap.size w w' := by
 have hB1 := below_alloc_new (w := w) (.cells #[.string g.cur, .int .i64 g.cy, .int .i64 g.cm, .int .i64 g.cp, .slice g.A g.n g.c, .int .i64 g.r0, .int .i64 g.r1, .int .i64 g.r2, .int .i64 g.r3, .int .i64 g.r4, .int .i64 g.r5, .int .i64 g.r6, .int .i64 g.r7, .int .i64 g.r8, .int .i64 g.r9, .int .i64 g.r10, .int .i64 g.r11, .int .i64 g.r12, .int .i64 g.r13, .int .i64 g.r14, .slice g.E g.m g.d] 29)
 have hB := below_new hB1 (.cells #[.int .i64 acc0.code, .int .i64 acc0.kind, .int .i64 acc0.basis, .int .i64 acc0.par] 130)
 have hG := (gb_new w 29 g).up (below_alloc_new (.cells #[.int .i64 acc0.code, .int .i64 acc0.kind, .int .i64 acc0.basis, .int .i64 acc0.par] 130))
 have hA := ab_new (w.alloc (.cells #[.string g.cur, .int .i64 g.cy, .int .i64 g.cm, .int .i64 g.cp, .slice g.A g.n g.c, .int .i64 g.r0, .int .i64 g.r1, .int .i64 g.r2, .int .i64 g.r3, .int .i64 g.r4, .int .i64 g.r5, .int .i64 g.r6, .int .i64 g.r7, .int .i64 g.r8, .int .i64 g.r9, .int .i64 g.r10, .int .i64 g.r11, .int .i64 g.r12, .int .i64 g.r13, .int .i64 g.r14, .slice g.E g.m g.d] 29)) 130 acc0
 have e1 : (w.alloc (.cells #[.string g.cur, .int .i64 g.cy, .int .i64 g.cm, .int .i64 g.cp, .slice g.A g.n g.c, .int .i64 g.r0, .int .i64 g.r1, .int .i64 g.r2, .int .i64 g.r3, .int .i64 g.r4, .int .i64 g.r5, .int .i64 g.r6, .int .i64 g.r7, .int .i64 g.r8, .int .i64 g.r9, .int .i64 g.r10, .int .i64 g.r11, .int .i64 g.r12, .int .i64 g.r13, .int .i64 g.r14, .slice g.E g.m g.d] 29)).heap.size = w.heap.size + 1 := by simp
 rw [e1] at hA
 have hz2 := hz.up hB
 have h1 := fun w h => cfind_any g.A g.c L c w h (by omega)
 rw [ln] at h1
 generalize fndA L c = x at *
 generalize (fnd L c).isSome = q at *
 obtain ⟨s0, hs0⟩ : ∃ s0, w.heap.size = s0 := ⟨_, rfl⟩
 rw [hs0] at hB hG hA ⊢
 have HS0 := Lib.hid hs0
 have HZ := Lib.hid hz2
 have HA := Lib.hid hA
 have H1 := Lib.hid h1
 have c4 := hG.c4
 clear hz hz2 ln hl hB1 e1 hG hA h1
 have hs1 : s0 ≤ ((w.alloc (.cells #[.string g.cur, .int .i64 g.cy, .int .i64 g.cm, .int .i64 g.cp, .slice g.A g.n g.c, .int .i64 g.r0, .int .i64 g.r1, .int .i64 g.r2, .int .i64 g.r3, .int .i64 g.r4, .int .i64 g.r5, .int .i64 g.r6, .int .i64 g.r7, .int .i64 g.r8, .int .i64 g.r9, .int .i64 g.r10, .int .i64 g.r11, .int .i64 g.r12, .int .i64 g.r13, .int .i64 g.r14, .slice g.E g.m g.d] 29)).alloc (.cells #[.int .i64 acc0.code, .int .i64 acc0.kind, .int .i64 acc0.basis, .int .i64 acc0.par] 130)).heap.size := by simp; omega
 have HS1 := Lib.hid hs1
 clear hs1
 go_enter Tryz.func147, Tryz.ntmps147
 go_wp2_with (go_at_call 99; refine (H1.out _ HZ.out).mono ?_; rintro e w1 ⟨rfl, hb⟩; have hB2 := hB.trans (hb.mono HS1.out); have HA2 := HA.out.up hb; clear hb HA; obtain ⟨⟨z0, z1, z2, z3⟩, zlt, zf⟩ := HA2; have zf0 := zf 0; have zf1 := zf 1; have zf2 := zf 2; have zf3 := zf 3; simp only [Nat.zero_add] at z1 z2 z3; clear zf)
 exact bodyPost_ret (v := .tuple #[accV x, .bool q]) (by simp [results, Tryz.results147, go_sem, z0, z1, z2, z3]) rfl ⟨rfl, bset4 hB2 (by omega) _ _ _ _⟩
def rlN (i : Nat) : ByteArray := ([⟨#[105, 110, 118, 101, 115, 116, 109, 101, 110, 116]⟩, ⟨#[103, 111, 111, 100, 119, 105, 108, 108]⟩, ⟨#[97, 115, 115, 111, 99, 105, 97, 116, 101, 115]⟩, ⟨#[105, 110, 118, 101, 110, 116, 111, 114, 121]⟩, ⟨#[114, 101, 115, 101, 114, 118, 101]⟩, ⟨#[109, 105, 110, 111, 114, 105, 116, 121]⟩, ⟨#[114, 101, 116, 97, 105, 110, 101, 100]⟩, ⟨#[97, 99, 113, 117, 105, 114, 101, 100]⟩, ⟨#[111, 119, 110, 101, 114, 115]⟩, ⟨#[100, 105, 115, 112, 111, 115, 97, 108]⟩, ⟨#[97, 115, 115, 111, 99, 105, 97, 116, 101, 80, 114, 111, 102, 105, 116]⟩, ⟨#[100, 105, 118, 105, 100, 101, 110, 100, 115]⟩, ⟨#[109, 105, 110, 111, 114, 105, 116, 121, 80, 114, 111, 102, 105, 116]⟩, ⟨#[100, 105, 102, 102, 101, 114, 101, 110, 99, 101]⟩, ⟨#[109, 97, 114, 103, 105, 110]⟩] : List ByteArray).getD i ⟨#[]⟩
abbrev rpC (g : Grp) : Array Value := #[.string ⟨#[105, 110, 118, 101, 115, 116, 109, 101, 110, 116]⟩, .int .i64 g.r0, .int .i64 1, .int .i64 3, .string ⟨#[103, 111, 111, 100, 119, 105, 108, 108]⟩, .int .i64 g.r1, .int .i64 1, .int .i64 3, .string ⟨#[97, 115, 115, 111, 99, 105, 97, 116, 101, 115]⟩, .int .i64 g.r2, .int .i64 1, .int .i64 3, .string ⟨#[105, 110, 118, 101, 110, 116, 111, 114, 121]⟩, .int .i64 g.r3, .int .i64 1, .int .i64 1, .string ⟨#[114, 101, 115, 101, 114, 118, 101]⟩, .int .i64 g.r4, .int .i64 3, .int .i64 3, .string ⟨#[109, 105, 110, 111, 114, 105, 116, 121]⟩, .int .i64 g.r5, .int .i64 3, .int .i64 3, .string ⟨#[114, 101, 116, 97, 105, 110, 101, 100]⟩, .int .i64 g.r6, .int .i64 3, .int .i64 3, .string ⟨#[97, 99, 113, 117, 105, 114, 101, 100]⟩, .int .i64 g.r7, .int .i64 3, .int .i64 3, .string ⟨#[111, 119, 110, 101, 114, 115]⟩, .int .i64 g.r8, .int .i64 3, .int .i64 3, .string ⟨#[100, 105, 115, 112, 111, 115, 97, 108]⟩, .int .i64 g.r9, .int .i64 4, .int .i64 2, .string ⟨#[97, 115, 115, 111, 99, 105, 97, 116, 101, 80, 114, 111, 102, 105, 116]⟩, .int .i64 g.r10, .int .i64 4, .int .i64 2, .string ⟨#[100, 105, 118, 105, 100, 101, 110, 100, 115]⟩, .int .i64 g.r11, .int .i64 4, .int .i64 2, .string ⟨#[109, 105, 110, 111, 114, 105, 116, 121, 80, 114, 111, 102, 105, 116]⟩, .int .i64 g.r12, .int .i64 5, .int .i64 2, .string ⟨#[100, 105, 102, 102, 101, 114, 101, 110, 99, 101]⟩, .int .i64 g.r13, .int .i64 5, .int .i64 2, .string ⟨#[109, 97, 114, 103, 105, 110]⟩, .int .i64 g.r14, .int .i64 5, .int .i64 2]
structure RB (w : World) (b : Nat) (g : Grp) : Prop where
 c0 : w.cell? ⟨b, 0, none⟩ = some (.int .i64 g.r0)
 c1 : w.cell? ⟨b, 1, none⟩ = some (.int .i64 g.r1)
 c2 : w.cell? ⟨b, 2, none⟩ = some (.int .i64 g.r2)
 c3 : w.cell? ⟨b, 3, none⟩ = some (.int .i64 g.r3)
 c4 : w.cell? ⟨b, 4, none⟩ = some (.int .i64 g.r4)
 c5 : w.cell? ⟨b, 5, none⟩ = some (.int .i64 g.r5)
 c6 : w.cell? ⟨b, 6, none⟩ = some (.int .i64 g.r6)
 c7 : w.cell? ⟨b, 7, none⟩ = some (.int .i64 g.r7)
 c8 : w.cell? ⟨b, 8, none⟩ = some (.int .i64 g.r8)
 c9 : w.cell? ⟨b, 9, none⟩ = some (.int .i64 g.r9)
 c10 : w.cell? ⟨b, 10, none⟩ = some (.int .i64 g.r10)
 c11 : w.cell? ⟨b, 11, none⟩ = some (.int .i64 g.r11)
 c12 : w.cell? ⟨b, 12, none⟩ = some (.int .i64 g.r12)
 c13 : w.cell? ⟨b, 13, none⟩ = some (.int .i64 g.r13)
 c14 : w.cell? ⟨b, 14, none⟩ = some (.int .i64 g.r14)
 lt : b < w.heap.size
theorem rb_new (w : World) (t : TypeId) (g : Grp) : RB (w.alloc (.cells #[.int .i64 g.r0, .int .i64 g.r1, .int .i64 g.r2, .int .i64 g.r3, .int .i64 g.r4, .int .i64 g.r5, .int .i64 g.r6, .int .i64 g.r7, .int .i64 g.r8, .int .i64 g.r9, .int .i64 g.r10, .int .i64 g.r11, .int .i64 g.r12, .int .i64 g.r13, .int .i64 g.r14] t)) w.heap.size g := by
 constructor
 case lt => simp
 all_goals (simp only [World.cell?]; rw [heap_alloc_new]; rfl)
theorem RB.up {w w' : World} {b : Nat} {g : Grp} (h : RB w b g) (hb : Below w.heap.size w w') : RB w' b g :=
 ⟨(hb.cell (p := ⟨b, 0, none⟩) h.lt).trans h.c0, (hb.cell (p := ⟨b, 1, none⟩) h.lt).trans h.c1, (hb.cell (p := ⟨b, 2, none⟩) h.lt).trans h.c2, (hb.cell (p := ⟨b, 3, none⟩) h.lt).trans h.c3, (hb.cell (p := ⟨b, 4, none⟩) h.lt).trans h.c4, (hb.cell (p := ⟨b, 5, none⟩) h.lt).trans h.c5, (hb.cell (p := ⟨b, 6, none⟩) h.lt).trans h.c6, (hb.cell (p := ⟨b, 7, none⟩) h.lt).trans h.c7, (hb.cell (p := ⟨b, 8, none⟩) h.lt).trans h.c8, (hb.cell (p := ⟨b, 9, none⟩) h.lt).trans h.c9, (hb.cell (p := ⟨b, 10, none⟩) h.lt).trans h.c10, (hb.cell (p := ⟨b, 11, none⟩) h.lt).trans h.c11, (hb.cell (p := ⟨b, 12, none⟩) h.lt).trans h.c12, (hb.cell (p := ⟨b, 13, none⟩) h.lt).trans h.c13, (hb.cell (p := ⟨b, 14, none⟩) h.lt).trans h.c14, Nat.lt_of_lt_of_le h.lt hb.size⟩
theorem there_new (w : World) (C : Array Value) (t : TypeId) : (w.alloc (.cells C t)).there w.heap.size 0 C.size := fun j hj => by
 rw [Nat.zero_add]
 constructor
 ·simp only [World.cell?]; rw [heap_alloc_new]; simp; exact hj
 ·simp only [World.frozen?]; rw [heap_alloc_new]; simp
theorem below_setCells {B : Nat} {w0 : World} {b : Nat} (hb : B ≤ b) : ∀ (vs : List Value) (o : Nat) {w : World}, Below B w0 w → Below B w0 (w.setCells b o vs)
 | [], _, _, h => h
 | v :: r, o, _, h => by
  rw [World.setCells]
  exact below_setCells hb r (o + 1) (Below.setCell (p := ⟨b, o, none⟩) h hb v)
theorem results_cell_mid {P : Program} {fn : Func} {p : Tmp} {ty : TypeId} (h : fn.results = #[.cell p ty]) (tmps : Array Value) (w : World) (b : Nat) (cs : List Value) (d : TypeDesc)
  (hp : tmps.getD p undef = .pointer (some ⟨b, 0, none⟩)) (hc : w.rangeAt b 0 cs) (hu : P.underlying ty = some d) (hd : d.isRow = true) (hi : (P.info? ty).map (·.size) = some cs.length) :
  (results fn tmps).run P w = .ok (.agg cs.toArray) w := by
 have hp' : tmps[p]?.getD undef = .pointer (some ⟨b, 0, none⟩) := by simpa using hp
 simp [results, h, hp', asAddr, run_loadVar_mid w b 0 ty cs d hc hu hd hi]
set_option maxRecDepth 20000 in
set_option maxHeartbeats 1600000 in
theorem rolesof_any (g : Grp) (w : World) : Calls Tryz.prog 146 #[rolV g] w fun e w' => e = .returned (.agg (rpC g)) ∧ Below w.heap.size w w' := by
 have hB1 := below_alloc_new (w := w) (.cells #[.int .i64 g.r0, .int .i64 g.r1, .int .i64 g.r2, .int .i64 g.r3, .int .i64 g.r4, .int .i64 g.r5, .int .i64 g.r6, .int .i64 g.r7, .int .i64 g.r8, .int .i64 g.r9, .int .i64 g.r10, .int .i64 g.r11, .int .i64 g.r12, .int .i64 g.r13, .int .i64 g.r14] 26)
 have hB := below_new hB1 (.cells #[.string ⟨#[]⟩, .int .i64 0, .int .i64 0, .int .i64 0, .string ⟨#[]⟩, .int .i64 0, .int .i64 0, .int .i64 0, .string ⟨#[]⟩, .int .i64 0, .int .i64 0, .int .i64 0, .string ⟨#[]⟩, .int .i64 0, .int .i64 0, .int .i64 0, .string ⟨#[]⟩, .int .i64 0, .int .i64 0, .int .i64 0, .string ⟨#[]⟩, .int .i64 0, .int .i64 0, .int .i64 0, .string ⟨#[]⟩, .int .i64 0, .int .i64 0, .int .i64 0, .string ⟨#[]⟩, .int .i64 0, .int .i64 0, .int .i64 0, .string ⟨#[]⟩, .int .i64 0, .int .i64 0, .int .i64 0, .string ⟨#[]⟩, .int .i64 0, .int .i64 0, .int .i64 0, .string ⟨#[]⟩, .int .i64 0, .int .i64 0, .int .i64 0, .string ⟨#[]⟩, .int .i64 0, .int .i64 0, .int .i64 0, .string ⟨#[]⟩, .int .i64 0, .int .i64 0, .int .i64 0, .string ⟨#[]⟩, .int .i64 0, .int .i64 0, .int .i64 0, .string ⟨#[]⟩, .int .i64 0, .int .i64 0, .int .i64 0] 179)
 have hR := (rb_new w 26 g).up (below_alloc_new (.cells #[.string ⟨#[]⟩, .int .i64 0, .int .i64 0, .int .i64 0, .string ⟨#[]⟩, .int .i64 0, .int .i64 0, .int .i64 0, .string ⟨#[]⟩, .int .i64 0, .int .i64 0, .int .i64 0, .string ⟨#[]⟩, .int .i64 0, .int .i64 0, .int .i64 0, .string ⟨#[]⟩, .int .i64 0, .int .i64 0, .int .i64 0, .string ⟨#[]⟩, .int .i64 0, .int .i64 0, .int .i64 0, .string ⟨#[]⟩, .int .i64 0, .int .i64 0, .int .i64 0, .string ⟨#[]⟩, .int .i64 0, .int .i64 0, .int .i64 0, .string ⟨#[]⟩, .int .i64 0, .int .i64 0, .int .i64 0, .string ⟨#[]⟩, .int .i64 0, .int .i64 0, .int .i64 0, .string ⟨#[]⟩, .int .i64 0, .int .i64 0, .int .i64 0, .string ⟨#[]⟩, .int .i64 0, .int .i64 0, .int .i64 0, .string ⟨#[]⟩, .int .i64 0, .int .i64 0, .int .i64 0, .string ⟨#[]⟩, .int .i64 0, .int .i64 0, .int .i64 0, .string ⟨#[]⟩, .int .i64 0, .int .i64 0, .int .i64 0] 179))
 have hT := there_new (w.alloc (.cells #[.int .i64 g.r0, .int .i64 g.r1, .int .i64 g.r2, .int .i64 g.r3, .int .i64 g.r4, .int .i64 g.r5, .int .i64 g.r6, .int .i64 g.r7, .int .i64 g.r8, .int .i64 g.r9, .int .i64 g.r10, .int .i64 g.r11, .int .i64 g.r12, .int .i64 g.r13, .int .i64 g.r14] 26)) #[.string ⟨#[]⟩, .int .i64 0, .int .i64 0, .int .i64 0, .string ⟨#[]⟩, .int .i64 0, .int .i64 0, .int .i64 0, .string ⟨#[]⟩, .int .i64 0, .int .i64 0, .int .i64 0, .string ⟨#[]⟩, .int .i64 0, .int .i64 0, .int .i64 0, .string ⟨#[]⟩, .int .i64 0, .int .i64 0, .int .i64 0, .string ⟨#[]⟩, .int .i64 0, .int .i64 0, .int .i64 0, .string ⟨#[]⟩, .int .i64 0, .int .i64 0, .int .i64 0, .string ⟨#[]⟩, .int .i64 0, .int .i64 0, .int .i64 0, .string ⟨#[]⟩, .int .i64 0, .int .i64 0, .int .i64 0, .string ⟨#[]⟩, .int .i64 0, .int .i64 0, .int .i64 0, .string ⟨#[]⟩, .int .i64 0, .int .i64 0, .int .i64 0, .string ⟨#[]⟩, .int .i64 0, .int .i64 0, .int .i64 0, .string ⟨#[]⟩, .int .i64 0, .int .i64 0, .int .i64 0, .string ⟨#[]⟩, .int .i64 0, .int .i64 0, .int .i64 0, .string ⟨#[]⟩, .int .i64 0, .int .i64 0, .int .i64 0] 179
 have e1 : (w.alloc (.cells #[.int .i64 g.r0, .int .i64 g.r1, .int .i64 g.r2, .int .i64 g.r3, .int .i64 g.r4, .int .i64 g.r5, .int .i64 g.r6, .int .i64 g.r7, .int .i64 g.r8, .int .i64 g.r9, .int .i64 g.r10, .int .i64 g.r11, .int .i64 g.r12, .int .i64 g.r13, .int .i64 g.r14] 26)).heap.size = w.heap.size + 1 := by simp
 rw [e1] at hT
 obtain ⟨s0, hs0⟩ : ∃ s0, w.heap.size = s0 := ⟨_, rfl⟩
 rw [hs0] at hB hR hT ⊢
 have hT60 : ((w.alloc (.cells #[.int .i64 g.r0, .int .i64 g.r1, .int .i64 g.r2, .int .i64 g.r3, .int .i64 g.r4, .int .i64 g.r5, .int .i64 g.r6, .int .i64 g.r7, .int .i64 g.r8, .int .i64 g.r9, .int .i64 g.r10, .int .i64 g.r11, .int .i64 g.r12, .int .i64 g.r13, .int .i64 g.r14] 26)).alloc (.cells #[.string ⟨#[]⟩, .int .i64 0, .int .i64 0, .int .i64 0, .string ⟨#[]⟩, .int .i64 0, .int .i64 0, .int .i64 0, .string ⟨#[]⟩, .int .i64 0, .int .i64 0, .int .i64 0, .string ⟨#[]⟩, .int .i64 0, .int .i64 0, .int .i64 0, .string ⟨#[]⟩, .int .i64 0, .int .i64 0, .int .i64 0, .string ⟨#[]⟩, .int .i64 0, .int .i64 0, .int .i64 0, .string ⟨#[]⟩, .int .i64 0, .int .i64 0, .int .i64 0, .string ⟨#[]⟩, .int .i64 0, .int .i64 0, .int .i64 0, .string ⟨#[]⟩, .int .i64 0, .int .i64 0, .int .i64 0, .string ⟨#[]⟩, .int .i64 0, .int .i64 0, .int .i64 0, .string ⟨#[]⟩, .int .i64 0, .int .i64 0, .int .i64 0, .string ⟨#[]⟩, .int .i64 0, .int .i64 0, .int .i64 0, .string ⟨#[]⟩, .int .i64 0, .int .i64 0, .int .i64 0, .string ⟨#[]⟩, .int .i64 0, .int .i64 0, .int .i64 0, .string ⟨#[]⟩, .int .i64 0, .int .i64 0, .int .i64 0] 179)).there (s0 + 1) 0 (rpC g).size := hT
 have HT := Lib.hid hT60
 obtain ⟨c0, c1, c2, c3, c4, c5, c6, c7, c8, c9, c10, c11, c12, c13, c14, rlt⟩ := hR
 clear hB1 e1 hT hT60
 go_enter Tryz.func146, Tryz.ntmps146
 go_wp2_with (refine wpList_store_mid rfl 179 _ _ rfl (s0 + 1) 0 (rpC g) rfl rfl HT.out (by kernel_rfl) (by kernel_rfl) ?_)
 exact bodyPost_ret (v := .agg (rpC g)) (results_cell_mid Tryz.results146 _ _ (s0 + 1) (rpC g).toList _ rfl (World.rangeAt_setCells_same _ _ _ _ HT.out) Tryz.underlying179 rfl (by kernel_rfl)) rfl ⟨rfl, below_setCells (by omega) _ _ hB⟩
theorem wpList_index_is {P : Program} {w : World} {ops : Array Oper} {rest : List Oper} {o : Oper} {a : Act} {Q : Exit → Act → World → Prop} (hg : o.guard = none) (ty : TypeId) (x y : Operand) (hop : o.op = .index ty x y) (p q : Value) (hx : a.eval x = p) (hy : a.eval y = q) (V : Value)
  (hl : (Instr.index ty p q).run P w = .ok V w) (h : wpList P ops Q rest (a.put o.dst V) w) : wpList P ops Q (o :: rest) a w := by
 refine wpList_plain hg fun K hK => ?_
 unfold Oper.wp execOp
 simp only [hop, hx, hy, Sem.run_bind, hl, Sem.run_pure, Result.andThen_ok]
 exact hK _ _ h
abbrev rowV (g : Grp) (i : Nat) : Value := .agg #[.string (rlN i), .int .i64 (g.R.getD i 0), .int .i64 (rlK i), .int .i64 (rlB i)]
set_option maxRecDepth 20000 in
theorem rol_index (g : Grp) (i : Nat) (hi : i < 15) (W : World) : (Instr.index 179 (.agg (rpC g)) (.int .i64 (i : Int))).run Tryz.prog W = .ok (rowV g i) W := by
 rcases (show i = 0 ∨ i = 1 ∨ i = 2 ∨ i = 3 ∨ i = 4 ∨ i = 5 ∨ i = 6 ∨ i = 7 ∨ i = 8 ∨ i = 9 ∨ i = 10 ∨ i = 11 ∨ i = 12 ∨ i = 13 ∨ i = 14 from by omega) with rfl | rfl | rfl | rfl | rfl | rfl | rfl | rfl | rfl | rfl | rfl | rfl | rfl | rfl | rfl
 all_goals kernel_rfl
def roN (R : List Int) (c : Int) : ByteArray := if c ∈ R then rlN (R.idxOf c) else ⟨#[]⟩
theorem ro_at {R : List Int} {c : Int} {k : Nat} (hk : k < R.length) (h0 : ∀ j, j < k → R.getD j 0 ≠ c) (h : R.getD k 0 = c) : roN R c = rlN k ∧ decide (c ∈ R) = true := by
 have hm : c ∈ R := by rw [← h]; exact getD_mem_acc hk
 have hx : R.idxOf c = k := by
  show R.findIdx (· == c) = k
  rw [List.findIdx_eq hk]
  rw [List.getD_eq_getElem?_getD, List.getElem?_eq_getElem hk] at h
  refine ⟨by simpa using h, fun j hj => ?_⟩
  have := h0 j hj
  rw [List.getD_eq_getElem?_getD, List.getElem?_eq_getElem (by omega)] at this
  simpa using this
 unfold roN
 rw [if_pos hm, hx]
 exact ⟨rfl, decide_eq_true hm⟩
theorem ro_no {R : List Int} {c : Int} (h0 : ∀ j, j < R.length → R.getD j 0 ≠ c) : roN R c = ⟨#[]⟩ ∧ decide (c ∈ R) = false := by
 have hm : c ∉ R := fun h => by
  obtain ⟨i, hi, e⟩ := mem_getD_acc (d := (0 : Int)) h
  exact h0 i hi e
 unfold roN
 rw [if_neg hm]
 exact ⟨rfl, decide_eq_false hm⟩
structure WB (w : World) (b : Nat) (g : Grp) (i : Nat) : Prop where
 c0 : w.cell? ⟨b, 0, none⟩ = some (.string (rlN i))
 c1 : w.cell? ⟨b, 1, none⟩ = some (.int .i64 (g.R.getD i 0))
 c2 : w.cell? ⟨b, 2, none⟩ = some (.int .i64 (rlK i))
 c3 : w.cell? ⟨b, 3, none⟩ = some (.int .i64 (rlB i))
 lt : b < w.heap.size
theorem wb_new (w : World) (t : TypeId) (g : Grp) (i : Nat) : WB (w.alloc (.cells #[.string (rlN i), .int .i64 (g.R.getD i 0), .int .i64 (rlK i), .int .i64 (rlB i)] t)) w.heap.size g i := by
 constructor
 case lt => simp
 all_goals (simp only [World.cell?]; rw [heap_alloc_new]; rfl)
set_option maxRecDepth 20000 in
set_option maxHeartbeats 1600000 in
theorem grole_any (g : Grp) (c : Int) (w : World) : Calls Tryz.prog 177 #[grpV g, .int .i64 c] w fun e w' => e = .returned (.tuple #[.string (roN g.R c), .bool (decide (c ∈ g.R))]) ∧ Below w.heap.size w w' := by
 have hB := below_alloc_new (w := w) (.cells #[.string g.cur, .int .i64 g.cy, .int .i64 g.cm, .int .i64 g.cp, .slice g.A g.n g.c, .int .i64 g.r0, .int .i64 g.r1, .int .i64 g.r2, .int .i64 g.r3, .int .i64 g.r4, .int .i64 g.r5, .int .i64 g.r6, .int .i64 g.r7, .int .i64 g.r8, .int .i64 g.r9, .int .i64 g.r10, .int .i64 g.r11, .int .i64 g.r12, .int .i64 g.r13, .int .i64 g.r14, .slice g.E g.m g.d] 29)
 have hG := gb_new w 29 g
 have hat := fun k (hk : k < 15) => ro_at (R := g.R) (c := c) (k := k) hk
 have hno := fun (h : ∀ j, j < 15 → g.R.getD j 0 ≠ c) => ro_no (R := g.R) (c := c) h
 have hix := fun i hi W => rol_index g i hi W
 have h1 := fun w => rolesof_any g w
 generalize roN g.R c = nm at *
 generalize decide (c ∈ g.R) = q at *
 obtain ⟨V, hV⟩ : ∃ V : Value, .agg (rpC g) = V := ⟨_, rfl⟩
 rw [hV] at hix h1
 obtain ⟨U, hU⟩ : ∃ U : Value, rolV g = U := ⟨_, rfl⟩
 rw [hU] at h1
 have hR := gb_roles hG
 rw [hU] at hR
 obtain ⟨s0, hs0⟩ : ∃ s0, w.heap.size = s0 := ⟨_, rfl⟩
 rw [hs0] at hB hR ⊢
 have HS0 := Lib.hid hs0
 have HAt := Lib.hid hat
 have HNo := Lib.hid hno
 have HIx := Lib.hid hix
 have HR := Lib.hid hR
 have H1 := Lib.hid h1
 clear hG hat hno hix h1 hV hU hR
 have hs1 : s0 ≤ (w.alloc (.cells #[.string g.cur, .int .i64 g.cy, .int .i64 g.cm, .int .i64 g.cp, .slice g.A g.n g.c, .int .i64 g.r0, .int .i64 g.r1, .int .i64 g.r2, .int .i64 g.r3, .int .i64 g.r4, .int .i64 g.r5, .int .i64 g.r6, .int .i64 g.r7, .int .i64 g.r8, .int .i64 g.r9, .int .i64 g.r10, .int .i64 g.r11, .int .i64 g.r12, .int .i64 g.r13, .int .i64 g.r14, .slice g.E g.m g.d] 29)).heap.size := by simp; omega
 have HS1 := Lib.hid hs1
 clear hs1
 go_enter Tryz.func177, Tryz.ntmps177
 go_wp2_with (first
  | (refine wpList_load_is rfl 26 _ rfl (.pointer (some ⟨s0, 5, none⟩)) rfl U HR.out ?_)
  | (go_at_call 146; refine (H1.out _).mono ?_; rintro e w1 ⟨rfl, hb⟩; have hB2 := hB.trans (hb.mono HS1.out); clear hb hB HR))
 clear hs0
 go_loopg [11] 15 (fun kx s11 wr => ∃ k : Nat, s11 = .int .i64 k ∧ k ≤ 15 ∧ 15 - k ≤ kx ∧ Hid (∀ j, j < k → g.R.getD j 0 ≠ c) ∧ Below s0 w wr)
 case atStart => exact ⟨0, rfl, by omega, by omega, Lib.hid (fun j h => absurd h (by omega)), hB2⟩
 case round =>
  clear hB2
  obtain ⟨k, rfl, hk, hkx, HN, hB⟩ := hrel
  by_cases hlt : k < 15
  ·have hltz : (k : Int) < 15 := by omega
   have hsz : s0 ≤ wr.heap.size := by have := hB.size; have := HS0.out; omega
   have hix := HIx.out k hlt
   have ha := HAt.out k hlt HN.out
   obtain ⟨z0, z1, z2, z3, zlt⟩ := wb_new wr 178 g k
   have hnx : g.R.getD k 0 ≠ c → Hid (∀ j, j < k + 1 → g.R.getD j 0 ≠ c) := fun h => Lib.hid fun j hj => by
    rcases Nat.lt_or_ge j k with h1 | h1
    ·exact HN.out j h1
    ·obtain rfl : j = k := by omega
     exact h
   have hB1 : Below s0 w (wr.alloc (.cells #[.string (rlN k), .int .i64 (g.R.getD k 0), .int .i64 (rlK k), .int .i64 (rlB k)] 178)) := hB.alloc hsz _
   unfold rowV at hix
   generalize g.R.getD k 0 = x at *
   generalize rlN k = y at *
   generalize rlK k = y2 at *
   generalize rlB k = y3 at *
   obtain ⟨T, hT⟩ : ∃ T, (.agg #[.string y, .int .i64 x, .int .i64 y2, .int .i64 y3] : Value) = T := ⟨_, rfl⟩
   have HIx2 := Lib.hid hix
   clear HN hix hT
   by_cases hq : x = c
   ·have e3 : (x == c) = true := by simp [hq]
    have HR := Lib.hid (ha hq)
    clear ha hnx hq
    go_wp2_with (refine wpList_index_is rfl 179 _ _ rfl V (.int .i64 (k : Int)) rfl rfl _ (HIx2.out _) ?_)
    go_ret2
    exact ⟨by rw [HR.out.1, HR.out.2]; rfl, hB1⟩
   ·have e3 : (x == c) = false := by simp [hq]
    have HN2 := hnx hq
    clear ha hnx hq
    go_wp2_with (refine wpList_index_is rfl 179 _ _ rfl V (.int .i64 (k : Int)) rfl rfl _ (HIx2.out _) ?_)
    go_roundg (15 - (k + 1))
    case measure => omega
    case rel => exact ⟨k + 1, by go_num, by omega, by omega, HN2, hB1⟩
  ·obtain rfl : k = 15 := by omega
   have HR := Lib.hid (HNo.out HN.out)
   go_wp2_with fail
   go_ret2
   exact ⟨by rw [HR.out.1, HR.out.2]; rfl, hB⟩
set_option maxRecDepth 20000 in
set_option maxHeartbeats 1600000 in
theorem gopen_any (g : Grp) (c : Int) (w : World) : Calls Tryz.prog 168 #[grpV g, .int .i64 c] w fun e w' => e = .returned (.bool (opnP g.R c)) ∧ Below w.heap.size w w' := by
 have hB := below_alloc_new (w := w) (.cells #[.string g.cur, .int .i64 g.cy, .int .i64 g.cm, .int .i64 g.cp, .slice g.A g.n g.c, .int .i64 g.r0, .int .i64 g.r1, .int .i64 g.r2, .int .i64 g.r3, .int .i64 g.r4, .int .i64 g.r5, .int .i64 g.r6, .int .i64 g.r7, .int .i64 g.r8, .int .i64 g.r9, .int .i64 g.r10, .int .i64 g.r11, .int .i64 g.r12, .int .i64 g.r13, .int .i64 g.r14, .slice g.E g.m g.d] 29)
 have hG := gb_new w 29 g
 have hv : opnP g.R c = (decide (c = g.r0) || (decide (c = g.r3) || (decide (c = g.r6) || (decide (c = g.r11) || !decide (c ∈ g.R))))) := rfl
 have h1 := fun w => grole_any g c w
 obtain ⟨V, hV⟩ : ∃ V, V = grpV g := ⟨_, rfl⟩
 rw [← hV] at h1
 generalize roN g.R c = nm at *
 generalize decide (c ∈ g.R) = q at *
 generalize opnP g.R c = r at *
 obtain ⟨s0, hs0⟩ : ∃ s0, w.heap.size = s0 := ⟨_, rfl⟩
 rw [hs0] at hB hG ⊢
 have HV := Lib.hid hV
 have HG := Lib.hid hG
 have H1 := Lib.hid h1
 have HX := Lib.hid hv
 obtain ⟨-, -, -, -, -, c5, -, -, c8, -, -, c11, -, -, -, -, c16, -, -, -, -, -⟩ := hG
 clear hV h1 hv
 have hs1 : s0 ≤ (w.alloc (.cells #[.string g.cur, .int .i64 g.cy, .int .i64 g.cm, .int .i64 g.cp, .slice g.A g.n g.c, .int .i64 g.r0, .int .i64 g.r1, .int .i64 g.r2, .int .i64 g.r3, .int .i64 g.r4, .int .i64 g.r5, .int .i64 g.r6, .int .i64 g.r7, .int .i64 g.r8, .int .i64 g.r9, .int .i64 g.r10, .int .i64 g.r11, .int .i64 g.r12, .int .i64 g.r13, .int .i64 g.r14, .slice g.E g.m g.d] 29)).heap.size := by simp; omega
 have HS1 := Lib.hid hs1
 clear hs1
 by_cases k0 : c = g.r0
 ·have e0 : (c == g.r0) = true := by simp [k0]
  have HR : Hid (r = true) := Lib.hid (by rw [HX.out, decide_eq_true k0]; rfl)
  clear k0 HX
  go_enter Tryz.func168, Tryz.ntmps168
  go_wp2_with fail
  go_ret
  exact ⟨by rw [HR.out]; rfl, hB⟩
 have e0 : (c == g.r0) = false := by simp [k0]
 have f0 := decide_eq_false k0
 by_cases k3 : c = g.r3
 ·have e3 : (c == g.r3) = true := by simp [k3]
  have HR : Hid (r = true) := Lib.hid (by rw [HX.out, decide_eq_true k3]; simp)
  clear k0 k3 HX f0
  go_enter Tryz.func168, Tryz.ntmps168
  go_wp2_with fail
  go_ret
  exact ⟨by rw [HR.out]; rfl, hB⟩
 have e3 : (c == g.r3) = false := by simp [k3]
 have f3 := decide_eq_false k3
 by_cases k6 : c = g.r6
 ·have e6 : (c == g.r6) = true := by simp [k6]
  have HR : Hid (r = true) := Lib.hid (by rw [HX.out, decide_eq_true k6]; simp)
  clear k0 k3 k6 HX f0 f3
  go_enter Tryz.func168, Tryz.ntmps168
  go_wp2_with fail
  go_ret
  exact ⟨by rw [HR.out]; rfl, hB⟩
 have e6 : (c == g.r6) = false := by simp [k6]
 have f6 := decide_eq_false k6
 by_cases k11 : c = g.r11
 ·have e11 : (c == g.r11) = true := by simp [k11]
  have HR : Hid (r = true) := Lib.hid (by rw [HX.out, decide_eq_true k11]; simp)
  clear k0 k3 k6 k11 HX f0 f3 f6
  go_enter Tryz.func168, Tryz.ntmps168
  go_wp2_with fail
  go_ret
  exact ⟨by rw [HR.out]; rfl, hB⟩
 have e11 : (c == g.r11) = false := by simp [k11]
 have HR : Hid (r = !q) := Lib.hid (by rw [HX.out, f0, f3, f6, decide_eq_false k11]; simp)
 clear k0 k3 k6 k11 HX f0 f3 f6
 go_enter Tryz.func168, Tryz.ntmps168
 go_wp2_with (first
  | (refine wpList_load_is rfl 29 _ rfl (.pointer (some ⟨s0, 0, none⟩)) rfl V (gb_lV HG.out HV.out) ?_)
  | (go_at_call 177; refine (H1.out _).mono ?_; rintro e w1 ⟨rfl, hb⟩; have hB2 := hB.trans (hb.mono HS1.out); clear hb hB HG))
 go_ret
 exact ⟨by rw [HR.out]; rfl, hB2⟩
open Go.RowKit Go.Maps
def SetI (w : World) (b m : Nat) (S : Int → Bool) : Prop := ∃ D : DataW Value, w.ownsMap Tryz.prog 3 heldE b m D ∧ Maps.size D = m ∧ ∀ x, Maps.has D (.int .i64 x) = S x
theorem SetI.lt {w : World} {b m : Nat} {S : Int → Bool} (h : SetI w b m S) : b < w.heap.size := by
 obtain ⟨D, h1, _⟩ := h
 exact h1.lt
theorem SetI.blk {w w' : World} {b m : Nat} {S : Int → Bool} (h : SetI w b m S) (hk : w'.heap[b]? = w.heap[b]?) : SetI w' b m S := by
 obtain ⟨D, ⟨es, clock, hb, rest⟩, h2⟩ := h
 exact ⟨D, ⟨es, clock, hk.trans hb, rest⟩, h2⟩
theorem SetI.up {w w' : World} {b m : Nat} {S : Int → Bool} (h : SetI w b m S) (hb : Below w.heap.size w w') : SetI w' b m S := h.blk (hb.block b h.lt)
theorem SetI.made (w : World) : SetI (w.alloc (.map #[] 0)) w.heap.size 0 (fun _ => false) :=
 ⟨.map [], World.ownsMap_made _ _ _ _, rfl, fun _ => rfl⟩
theorem wpList_seti_put {w : World} {ops : Array Oper} {rest : List Oper} {o : Oper} {a : Act} {Q : Exit → Act → World → Prop} (hg : o.guard = none) (m x y : Operand) (t e : TypeId) (hop : o.op = Op.mapUpdate t m x y)
  (ht : Tryz.prog.underlying t = some (.map 3 e))
  (b n : Nat) (S : Int → Bool) (hm : a.eval m = .map (some b)) (hs : SetI w b n S) (c : Int) (hx : a.eval x = .int .i64 c) (v : Value) (hy : a.eval y = v) (hw : (Lit.int .i64 c).wf = true) (hn : n ≤ 1000000)
  (hK : ∀ w', Hid (SetI w' b (if S c = true then n else n + 1) (fun x => decide (x = c) || S x)) → Hid (w.grownBy w' (some b)) → wpList Tryz.prog ops Q rest (a.put o.dst undef) w') : wpList Tryz.prog ops Q (o :: rest) a w := by
 obtain ⟨D, h1, hsz, h3⟩ := hs
 have h2 := h1.isMap
 have ht2 := h1.tidy ti_keyed
 refine wpList_mapUpdate_own w hg m x y t hop 3 e ti_keyed ht heldE b n D hm h1 (by unfold maxLen; omega) _ _ _ hx hy (keyOf_int_mk Tryz.underlying3 hw) (.held v) [] rfl ?_
 intro w' h4 h5
 have hsz2 : Maps.size (D.put (.int .i64 c) (.held v)) = if S c = true then n else n + 1 := by
  rw [size_put ht2, h3 c, hsz]
 have hkl : ∀ z : Int, WideAt.IsKeyLit (Lit.int .i64 z) := fun z => by simp [WideAt.IsKeyLit]
 refine hK w' (Lib.hid ⟨_, ?_, hsz2, fun x => ?_⟩) (Lib.hid h5)
 ·obtain ⟨es, clock, hb, F, hes, hD⟩ := h4
  refine ⟨es, clock, hb, F, ?_, hD⟩
  have : es.size = Maps.size (D.put (.int .i64 c) (.held v)) := by rw [hD, size_eq, length_sorted]; simp
  omega
 ·by_cases hxc : x = c
  ·subst hxc
   rw [has_put_same h2 (hkl _)]
   simp
  ·have hne : Lit.int .i64 x ≠ Lit.int .i64 c := fun e => hxc (by injection e)
   rw [has_put_other hne, h3 x]
   show S x = (decide (x = c) || S x)
   rw [decide_eq_false hxc]; rfl
theorem wpList_seti_len {w : World} {ops : Array Oper} {rest : List Oper} {o : Oper} {a : Act} {Q : Exit → Act → World → Prop} (hg : o.guard = none) (m : Operand) (t e : TypeId) (hop : o.op = Op.call { callee := Callee.builtin Builtin.len, args := #[m], argTypes := #[t] })
  (ht : Tryz.prog.underlying t = some (.map 3 e)) (b n : Nat) (S : Int → Bool) (hm : a.eval m = .map (some b)) (hs : SetI w b n S)
  (hK : wpList Tryz.prog ops Q rest (a.put o.dst (.int .i64 (n : Int))) w) : wpList Tryz.prog ops Q (o :: rest) a w := by
 obtain ⟨D, h1, hsz, h3⟩ := hs
 refine wpList_len_own w hg m t hop 3 e ht heldE b n D hm h1 ?_
 rw [hsz]; exact hK
abbrev zC : Array Value := #[.string ⟨#[]⟩, .int .i64 0, .int .i64 0, .int .i64 0, .string ⟨#[]⟩, .int .i64 0, .int .i64 0, .int .i64 0, .string ⟨#[]⟩, .int .i64 0, .int .i64 0, .int .i64 0, .string ⟨#[]⟩, .int .i64 0, .int .i64 0, .int .i64 0, .string ⟨#[]⟩, .int .i64 0, .int .i64 0, .int .i64 0, .string ⟨#[]⟩, .int .i64 0, .int .i64 0, .int .i64 0, .string ⟨#[]⟩, .int .i64 0, .int .i64 0, .int .i64 0, .string ⟨#[]⟩, .int .i64 0, .int .i64 0, .int .i64 0, .string ⟨#[]⟩, .int .i64 0, .int .i64 0, .int .i64 0, .string ⟨#[]⟩, .int .i64 0, .int .i64 0, .int .i64 0, .string ⟨#[]⟩, .int .i64 0, .int .i64 0, .int .i64 0, .string ⟨#[]⟩, .int .i64 0, .int .i64 0, .int .i64 0, .string ⟨#[]⟩, .int .i64 0, .int .i64 0, .int .i64 0, .string ⟨#[]⟩, .int .i64 0, .int .i64 0, .int .i64 0, .string ⟨#[]⟩, .int .i64 0, .int .i64 0, .int .i64 0]
abbrev w66 (w1 : World) (g : Grp) : World := ((w1.alloc (.map #[] 0)).alloc (.cells zC 179)).setCells (w1.heap.size + 1) 0 (rpC g).toList
theorem w66_there (w1 : World) (g : Grp) : ((w1.alloc (.map #[] 0)).alloc (.cells zC 179)).there (w1.heap.size + 1) 0 (rpC g).size := by
 have h := there_new (w1.alloc (.map #[] 0)) zC 179
 have e1 : (w1.alloc (.map #[] 0)).heap.size = w1.heap.size + 1 := by simp
 rw [e1] at h
 exact h
theorem w66_is (w1 : World) (g : Grp) : Below w1.heap.size w1 (w66 w1 g) ∧ SetI (w66 w1 g) w1.heap.size 0 (fun _ => false) ∧ (Instr.loadAt 179 (.pointer (some ⟨w1.heap.size + 1, 0, none⟩))).run Tryz.prog (w66 w1 g) = .ok (.agg (rpC g)) (w66 w1 g) := by
 have e1 : (w1.alloc (.map #[] 0)).heap.size = w1.heap.size + 1 := by simp
 refine ⟨below_setCells (by omega) _ _ (below_new (below_alloc_new _) _), (SetI.made w1).up ?_, ?_⟩
 ·rw [e1]
  refine below_setCells (Nat.le_refl _) _ _ ?_
  have := below_alloc_new (w := w1.alloc (.map #[] 0)) (.cells zC 179)
  rwa [e1] at this
 ·exact run_loadAt_mid _ (w1.heap.size + 1) 0 179 (rpC g).toList _ (World.rangeAt_setCells_same _ _ _ _ (w66_there w1 g)) Tryz.underlying179 rfl (by kernel_rfl)
theorem rls_no {L : List Acc} {R : List Int} {k : Nat} (hk : k < 15) (h : chkR L R k = false) : rlsB L R = false := by
 unfold rlsB
 rw [allTo_no hk h]; rfl
theorem rls_end {L : List Acc} {R : List Int} {m : Nat} {S : Int → Bool} (h : allTo (chkR L R) 15 = true) (hr : RI R 15 m S) : rlsB L R = ((m : Int) == 15) := by
 unfold rlsB
 rw [h, Bool.true_and]
 have := hr.iff
 by_cases hm : m = 15
 ·rw [this.1 hm, hm]; rfl
 ·have h2 : allTo (dsR R) 15 = false := by
   cases hd : allTo (dsR R) 15
   ·rfl
   ·exact absurd (this.2 hd) hm
  rw [h2]; symm; exact beq_eq_false_iff_ne.2 (by omega)
theorem wpList_store66 {ops : Array Oper} {rest : List Oper} {o : Oper} {a : Act} {Q : Exit → Act → World → Prop} (hg : o.guard = none) (x y : Operand) (ho : o.op = .store 179 x y) (w1 : World) (g : Grp) (V : Value) (hx : a.eval x = .pointer (some ⟨w1.heap.size + 1, 0, none⟩)) (hy : a.eval y = V) (hV : V = .agg (rpC g))
  (h : ∀ W2, Hid (Below w1.heap.size w1 W2) → Hid (SetI W2 w1.heap.size 0 (fun _ => false)) → Hid ((Instr.loadAt 179 (.pointer (some ⟨w1.heap.size + 1, 0, none⟩))).run Tryz.prog W2 = .ok V W2) → wpList Tryz.prog ops Q rest (a.put o.dst undef) W2) :
  wpList Tryz.prog ops Q (o :: rest) a ((w1.alloc (.map #[] 0)).alloc (.cells zC 179)) := by
 obtain ⟨h1, h2, h3⟩ := w66_is w1 g
 subst hV
 exact wpList_store_mid hg 179 x y ho (w1.heap.size + 1) 0 (rpC g) hx hy (w66_there w1 g) (by kernel_rfl) (by kernel_rfl) (h _ (Lib.hid h1) (Lib.hid h2) (Lib.hid h3))
structure WX (w : World) (b : Nat) (y1 : ByteArray) (x y2 y3 : Int) : Prop where
 c0 : w.cell? ⟨b, 0, none⟩ = some (.string y1)
 c1 : w.cell? ⟨b, 1, none⟩ = some (.int .i64 x)
 c2 : w.cell? ⟨b, 2, none⟩ = some (.int .i64 y2)
 c3 : w.cell? ⟨b, 3, none⟩ = some (.int .i64 y3)
 lt : b < w.heap.size
theorem wx_new (w : World) (t : TypeId) (y1 : ByteArray) (x y2 y3 : Int) : WX (w.alloc (.cells #[.string y1, .int .i64 x, .int .i64 y2, .int .i64 y3] t)) w.heap.size y1 x y2 y3 := by
 constructor
 case lt => simp
 all_goals (simp only [World.cell?]; rw [heap_alloc_new]; rfl)
theorem WX.up {w w' : World} {b : Nat} {y1 : ByteArray} {x y2 y3 : Int} (h : WX w b y1 x y2 y3) (hb : Below w.heap.size w w') : WX w' b y1 x y2 y3 :=
 ⟨(hb.cell (p := ⟨b, 0, none⟩) h.lt).trans h.c0, (hb.cell (p := ⟨b, 1, none⟩) h.lt).trans h.c1, (hb.cell (p := ⟨b, 2, none⟩) h.lt).trans h.c2, (hb.cell (p := ⟨b, 3, none⟩) h.lt).trans h.c3, Nat.lt_of_lt_of_le h.lt hb.size⟩
end Go.Proofs.YtbcphcheomojdaaGreat
