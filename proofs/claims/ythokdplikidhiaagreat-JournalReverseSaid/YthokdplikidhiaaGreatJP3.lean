/- Contracts of the functions that the statements reach, part 3: what was proved of each, callees first. -/
import Derived.Laws.Cells
import Derived.Below
import Derived.Lib.ItoaNum
import Derived.Deep.MidRow
import Derived.BigQuiet
import Derived.Test.YthokdplikidhiaaGreatJP2
namespace Go.Proofs.YthokdplikidhiaaGreat
open Go.RowKit
theorem days_out (y m : Int) (w : World) (h : inYM y m = false) : Calls Tryz.prog 128 #[.int .i64 y, .int .i64 m] w fun e w' => e = .returned (.int .i64 0) ∧ Below w.heap.size w w' := by
 have hx : y < 1900 ∨ ¬ y < 1900 ∧ 2199 < y ∨ ¬ y < 1900 ∧ ¬ 2199 < y ∧ m < 1 ∨ ¬ y < 1900 ∧ ¬ 2199 < y ∧ ¬ m < 1 ∧ 12 < m := by
  have h2 : ¬ (1900 ≤ y ∧ y ≤ 2199 ∧ 1 ≤ m ∧ m ≤ 12) := fun e => by rw [inYM_iff.2 e] at h; cases h
  omega
 clear h
 rcases hx with h1 | ⟨h0, h1⟩ | ⟨h0, h1, h2⟩ | ⟨h0, h1, h2, h3⟩
 ·go_enter Tryz.func128, Tryz.ntmps128
  go_wp2
  go_ret
  exact ⟨rfl, (Below.refl _ _).alloc (Nat.le_refl _) _⟩
 all_goals
  go_enter Tryz.func128, Tryz.ntmps128
  go_wp2
  go_ret
  exact ⟨rfl, (Below.refl _ _).alloc (Nat.le_refl _) _⟩
theorem days_two (y : Int) (w : World) (h0 : 1900 ≤ y) (h1 : y ≤ 2199) : Calls Tryz.prog 128 #[.int .i64 y, .int .i64 2] w fun e w' => e = .returned (.int .i64 (28 + lpI y)) ∧ Below w.heap.size w w' := by
 cases hl : lpB y
 ·have hi := fun w => isLeap_any y w (by omega)
  rw [hl] at hi
  rw [show lpI y = 0 by rw [lpI, hl]; rfl]
  have HI := Lib.hid hi
  clear hi hl
  go_enter Tryz.func128, Tryz.ntmps128
  go_wp2_with (go_at_call 148; refine (HI.out _).mono ?_; rintro e w' ⟨rfl, rfl⟩)
  go_ret
  exact ⟨rfl, (Below.refl _ _).alloc (Nat.le_refl _) _⟩
 ·have hi := fun w => isLeap_any y w (by omega)
  rw [hl] at hi
  rw [show lpI y = 1 by rw [lpI, hl]; rfl]
  have HI := Lib.hid hi
  clear hi hl
  go_enter Tryz.func128, Tryz.ntmps128
  go_wp2_with (go_at_call 148; refine (HI.out _).mono ?_; rintro e w' ⟨rfl, rfl⟩)
  go_ret
  exact ⟨rfl, (Below.refl _ _).alloc (Nat.le_refl _) _⟩
theorem days_1 (y : Int) (w : World) (h0 : 1900 ≤ y) (h1 : y ≤ 2199) : Calls Tryz.prog 128 #[.int .i64 y, .int .i64 1] w fun e w' => e = .returned (.int .i64 31) ∧ Below w.heap.size w w' := by
 go_enter Tryz.func128, Tryz.ntmps128
 go_wp2
 go_ret
 exact ⟨rfl, (Below.refl _ _).alloc (Nat.le_refl _) _⟩
theorem days_3 (y : Int) (w : World) (h0 : 1900 ≤ y) (h1 : y ≤ 2199) : Calls Tryz.prog 128 #[.int .i64 y, .int .i64 3] w fun e w' => e = .returned (.int .i64 31) ∧ Below w.heap.size w w' := by
 go_enter Tryz.func128, Tryz.ntmps128
 go_wp2
 go_ret
 exact ⟨rfl, (Below.refl _ _).alloc (Nat.le_refl _) _⟩
theorem days_4 (y : Int) (w : World) (h0 : 1900 ≤ y) (h1 : y ≤ 2199) : Calls Tryz.prog 128 #[.int .i64 y, .int .i64 4] w fun e w' => e = .returned (.int .i64 30) ∧ Below w.heap.size w w' := by
 go_enter Tryz.func128, Tryz.ntmps128
 go_wp2
 go_ret
 exact ⟨rfl, (Below.refl _ _).alloc (Nat.le_refl _) _⟩
theorem days_5 (y : Int) (w : World) (h0 : 1900 ≤ y) (h1 : y ≤ 2199) : Calls Tryz.prog 128 #[.int .i64 y, .int .i64 5] w fun e w' => e = .returned (.int .i64 31) ∧ Below w.heap.size w w' := by
 go_enter Tryz.func128, Tryz.ntmps128
 go_wp2
 go_ret
 exact ⟨rfl, (Below.refl _ _).alloc (Nat.le_refl _) _⟩
theorem days_6 (y : Int) (w : World) (h0 : 1900 ≤ y) (h1 : y ≤ 2199) : Calls Tryz.prog 128 #[.int .i64 y, .int .i64 6] w fun e w' => e = .returned (.int .i64 30) ∧ Below w.heap.size w w' := by
 go_enter Tryz.func128, Tryz.ntmps128
 go_wp2
 go_ret
 exact ⟨rfl, (Below.refl _ _).alloc (Nat.le_refl _) _⟩
theorem days_7 (y : Int) (w : World) (h0 : 1900 ≤ y) (h1 : y ≤ 2199) : Calls Tryz.prog 128 #[.int .i64 y, .int .i64 7] w fun e w' => e = .returned (.int .i64 31) ∧ Below w.heap.size w w' := by
 go_enter Tryz.func128, Tryz.ntmps128
 go_wp2
 go_ret
 exact ⟨rfl, (Below.refl _ _).alloc (Nat.le_refl _) _⟩
theorem days_8 (y : Int) (w : World) (h0 : 1900 ≤ y) (h1 : y ≤ 2199) : Calls Tryz.prog 128 #[.int .i64 y, .int .i64 8] w fun e w' => e = .returned (.int .i64 31) ∧ Below w.heap.size w w' := by
 go_enter Tryz.func128, Tryz.ntmps128
 go_wp2
 go_ret
 exact ⟨rfl, (Below.refl _ _).alloc (Nat.le_refl _) _⟩
theorem days_9 (y : Int) (w : World) (h0 : 1900 ≤ y) (h1 : y ≤ 2199) : Calls Tryz.prog 128 #[.int .i64 y, .int .i64 9] w fun e w' => e = .returned (.int .i64 30) ∧ Below w.heap.size w w' := by
 go_enter Tryz.func128, Tryz.ntmps128
 go_wp2
 go_ret
 exact ⟨rfl, (Below.refl _ _).alloc (Nat.le_refl _) _⟩
theorem days_10 (y : Int) (w : World) (h0 : 1900 ≤ y) (h1 : y ≤ 2199) : Calls Tryz.prog 128 #[.int .i64 y, .int .i64 10] w fun e w' => e = .returned (.int .i64 31) ∧ Below w.heap.size w w' := by
 go_enter Tryz.func128, Tryz.ntmps128
 go_wp2
 go_ret
 exact ⟨rfl, (Below.refl _ _).alloc (Nat.le_refl _) _⟩
theorem days_11 (y : Int) (w : World) (h0 : 1900 ≤ y) (h1 : y ≤ 2199) : Calls Tryz.prog 128 #[.int .i64 y, .int .i64 11] w fun e w' => e = .returned (.int .i64 30) ∧ Below w.heap.size w w' := by
 go_enter Tryz.func128, Tryz.ntmps128
 go_wp2
 go_ret
 exact ⟨rfl, (Below.refl _ _).alloc (Nat.le_refl _) _⟩
theorem days_12 (y : Int) (w : World) (h0 : 1900 ≤ y) (h1 : y ≤ 2199) : Calls Tryz.prog 128 #[.int .i64 y, .int .i64 12] w fun e w' => e = .returned (.int .i64 31) ∧ Below w.heap.size w w' := by
 go_enter Tryz.func128, Tryz.ntmps128
 go_wp2
 go_ret
 exact ⟨rfl, (Below.refl _ _).alloc (Nat.le_refl _) _⟩
theorem days_any (y m : Int) (w : World) : Calls Tryz.prog 128 #[.int .i64 y, .int .i64 m] w fun e w' => e = .returned (.int .i64 (dys y m)) ∧ Below w.heap.size w w' := by
 cases h : inYM y m
 ·rw [dys_out h]; exact days_out y m w h
 ·rw [dys_in h]
  obtain ⟨a, b, c, d⟩ := inYM_iff.1 h
  clear h
  rcases twelve c d with rfl | rfl | rfl | rfl | rfl | rfl | rfl | rfl | rfl | rfl | rfl | rfl
  ·exact days_1 y w a b
  ·exact days_two y w a b
  ·exact days_3 y w a b
  ·exact days_4 y w a b
  ·exact days_5 y w a b
  ·exact days_6 y w a b
  ·exact days_7 y w a b
  ·exact days_8 y w a b
  ·exact days_9 y w a b
  ·exact days_10 y w a b
  ·exact days_11 y w a b
  ·exact days_12 y w a b
def mlens : Array Value := #[.int .i64 31, .int .i64 28, .int .i64 31, .int .i64 30, .int .i64 31, .int .i64 30, .int .i64 31, .int .i64 31, .int .i64 30, .int .i64 31, .int .i64 30, .int .i64 31]
theorem run_index_arr {P : Program} (t e : TypeId) (n : Nat) (cs : Array Value) (k : IntKind) (i : Nat) (v : Value) (w : World) (h : P.underlying t = some (.array n e)) (hi : i < n) (hv : cs[i]? = some v)
  (hs : ∀ w, (sizeOf e).run P w = .ok 1 w) (ha : ∀ w, (isAgg e).run P w = .ok false w) :
  (Instr.index t (.agg cs) (.int k i)).run P w = .ok v w := by
 simp [Instr.index, run_underlying h, asIntOf, hv, hi, hs, ha, go_sem]
theorem size_int (w : World) : (sizeOf 3).run Tryz.prog w = .ok 1 w := by
 have h : Tryz.t3.size = 1 := by kernel_rfl
 simp [sizeOf, h, go_sem]
theorem agg_int (w : World) : (isAgg 3).run Tryz.prog w = .ok false w := by
 simp [isAgg, run_underlying Tryz.underlying3, go_sem]
theorem rdays_out (y m : Int) (w : World) (h : inYM y m = false) : Calls Tryz.prog 76 #[.int .i64 y, .int .i64 m] w fun e w' => e = .returned (.int .i64 0) ∧ w = w' := by
 have hx : m < 1 ∨ ¬ m < 1 ∧ 12 < m ∨ ¬ m < 1 ∧ ¬ 12 < m ∧ y < 1900 ∨ ¬ m < 1 ∧ ¬ 12 < m ∧ ¬ y < 1900 ∧ 2199 < y := by
  have h2 : ¬ (1900 ≤ y ∧ y ≤ 2199 ∧ 1 ≤ m ∧ m ≤ 12) := fun e => by rw [inYM_iff.2 e] at h; cases h
  omega
 clear h
 rcases hx with h1 | ⟨h0, h1⟩ | ⟨h0, h1, h2⟩ | ⟨h0, h1, h2, h3⟩
 all_goals
  go_enter Tryz.func76, Tryz.ntmps76
  go_wp2
  go_ret
  exact ⟨rfl, rfl⟩
theorem rdays_two (y : Int) (w : World) (h0 : 1900 ≤ y) (h1 : y ≤ 2199) : Calls Tryz.prog 76 #[.int .i64 y, .int .i64 2] w fun e w' => e = .returned (.int .i64 (28 + lpI y)) ∧ w = w' := by
 have hi := fun w => rleap_any y w (by omega)
 unfold lpI
 cases hl : lpB y
 all_goals
  rw [hl] at hi
  have HI := Lib.hid hi
  clear hi hl
  have hx : ∀ W : World, (Instr.index 139 (.agg #[.int .i64 31, .int .i64 28, .int .i64 31, .int .i64 30, .int .i64 31, .int .i64 30, .int .i64 31, .int .i64 31, .int .i64 30, .int .i64 31, .int .i64 30, .int .i64 31]) (.int .i64 1)).run Tryz.prog W = .ok (.int .i64 28) W := fun W => run_index_arr (P := Tryz.prog) 139 3 12 mlens .i64 1 (.int .i64 28) W Tryz.underlying139 (by omega) rfl size_int agg_int
  go_enter Tryz.func76, Tryz.ntmps76
  go_wp2_with (go_at_call 105; refine (HI.out _).mono ?_; rintro e w' ⟨rfl, rfl⟩)
  go_ret
  exact ⟨rfl, rfl⟩
theorem rdays_1 (y : Int) (w : World) (h0 : 1900 ≤ y) (h1 : y ≤ 2199) : Calls Tryz.prog 76 #[.int .i64 y, .int .i64 1] w fun e w' => e = .returned (.int .i64 31) ∧ w = w' := by
 have hx : ∀ W : World, (Instr.index 139 (.agg #[.int .i64 31, .int .i64 28, .int .i64 31, .int .i64 30, .int .i64 31, .int .i64 30, .int .i64 31, .int .i64 31, .int .i64 30, .int .i64 31, .int .i64 30, .int .i64 31]) (.int .i64 0)).run Tryz.prog W = .ok (.int .i64 31) W := fun W => run_index_arr (P := Tryz.prog) 139 3 12 mlens .i64 0 (.int .i64 31) W Tryz.underlying139 (by omega) rfl size_int agg_int
 go_enter Tryz.func76, Tryz.ntmps76
 go_wp2
 go_ret
 exact ⟨rfl, rfl⟩
theorem rdays_3 (y : Int) (w : World) (h0 : 1900 ≤ y) (h1 : y ≤ 2199) : Calls Tryz.prog 76 #[.int .i64 y, .int .i64 3] w fun e w' => e = .returned (.int .i64 31) ∧ w = w' := by
 have hx : ∀ W : World, (Instr.index 139 (.agg #[.int .i64 31, .int .i64 28, .int .i64 31, .int .i64 30, .int .i64 31, .int .i64 30, .int .i64 31, .int .i64 31, .int .i64 30, .int .i64 31, .int .i64 30, .int .i64 31]) (.int .i64 2)).run Tryz.prog W = .ok (.int .i64 31) W := fun W => run_index_arr (P := Tryz.prog) 139 3 12 mlens .i64 2 (.int .i64 31) W Tryz.underlying139 (by omega) rfl size_int agg_int
 go_enter Tryz.func76, Tryz.ntmps76
 go_wp2
 go_ret
 exact ⟨rfl, rfl⟩
theorem rdays_4 (y : Int) (w : World) (h0 : 1900 ≤ y) (h1 : y ≤ 2199) : Calls Tryz.prog 76 #[.int .i64 y, .int .i64 4] w fun e w' => e = .returned (.int .i64 30) ∧ w = w' := by
 have hx : ∀ W : World, (Instr.index 139 (.agg #[.int .i64 31, .int .i64 28, .int .i64 31, .int .i64 30, .int .i64 31, .int .i64 30, .int .i64 31, .int .i64 31, .int .i64 30, .int .i64 31, .int .i64 30, .int .i64 31]) (.int .i64 3)).run Tryz.prog W = .ok (.int .i64 30) W := fun W => run_index_arr (P := Tryz.prog) 139 3 12 mlens .i64 3 (.int .i64 30) W Tryz.underlying139 (by omega) rfl size_int agg_int
 go_enter Tryz.func76, Tryz.ntmps76
 go_wp2
 go_ret
 exact ⟨rfl, rfl⟩
theorem rdays_5 (y : Int) (w : World) (h0 : 1900 ≤ y) (h1 : y ≤ 2199) : Calls Tryz.prog 76 #[.int .i64 y, .int .i64 5] w fun e w' => e = .returned (.int .i64 31) ∧ w = w' := by
 have hx : ∀ W : World, (Instr.index 139 (.agg #[.int .i64 31, .int .i64 28, .int .i64 31, .int .i64 30, .int .i64 31, .int .i64 30, .int .i64 31, .int .i64 31, .int .i64 30, .int .i64 31, .int .i64 30, .int .i64 31]) (.int .i64 4)).run Tryz.prog W = .ok (.int .i64 31) W := fun W => run_index_arr (P := Tryz.prog) 139 3 12 mlens .i64 4 (.int .i64 31) W Tryz.underlying139 (by omega) rfl size_int agg_int
 go_enter Tryz.func76, Tryz.ntmps76
 go_wp2
 go_ret
 exact ⟨rfl, rfl⟩
theorem rdays_6 (y : Int) (w : World) (h0 : 1900 ≤ y) (h1 : y ≤ 2199) : Calls Tryz.prog 76 #[.int .i64 y, .int .i64 6] w fun e w' => e = .returned (.int .i64 30) ∧ w = w' := by
 have hx : ∀ W : World, (Instr.index 139 (.agg #[.int .i64 31, .int .i64 28, .int .i64 31, .int .i64 30, .int .i64 31, .int .i64 30, .int .i64 31, .int .i64 31, .int .i64 30, .int .i64 31, .int .i64 30, .int .i64 31]) (.int .i64 5)).run Tryz.prog W = .ok (.int .i64 30) W := fun W => run_index_arr (P := Tryz.prog) 139 3 12 mlens .i64 5 (.int .i64 30) W Tryz.underlying139 (by omega) rfl size_int agg_int
 go_enter Tryz.func76, Tryz.ntmps76
 go_wp2
 go_ret
 exact ⟨rfl, rfl⟩
theorem rdays_7 (y : Int) (w : World) (h0 : 1900 ≤ y) (h1 : y ≤ 2199) : Calls Tryz.prog 76 #[.int .i64 y, .int .i64 7] w fun e w' => e = .returned (.int .i64 31) ∧ w = w' := by
 have hx : ∀ W : World, (Instr.index 139 (.agg #[.int .i64 31, .int .i64 28, .int .i64 31, .int .i64 30, .int .i64 31, .int .i64 30, .int .i64 31, .int .i64 31, .int .i64 30, .int .i64 31, .int .i64 30, .int .i64 31]) (.int .i64 6)).run Tryz.prog W = .ok (.int .i64 31) W := fun W => run_index_arr (P := Tryz.prog) 139 3 12 mlens .i64 6 (.int .i64 31) W Tryz.underlying139 (by omega) rfl size_int agg_int
 go_enter Tryz.func76, Tryz.ntmps76
 go_wp2
 go_ret
 exact ⟨rfl, rfl⟩
theorem rdays_8 (y : Int) (w : World) (h0 : 1900 ≤ y) (h1 : y ≤ 2199) : Calls Tryz.prog 76 #[.int .i64 y, .int .i64 8] w fun e w' => e = .returned (.int .i64 31) ∧ w = w' := by
 have hx : ∀ W : World, (Instr.index 139 (.agg #[.int .i64 31, .int .i64 28, .int .i64 31, .int .i64 30, .int .i64 31, .int .i64 30, .int .i64 31, .int .i64 31, .int .i64 30, .int .i64 31, .int .i64 30, .int .i64 31]) (.int .i64 7)).run Tryz.prog W = .ok (.int .i64 31) W := fun W => run_index_arr (P := Tryz.prog) 139 3 12 mlens .i64 7 (.int .i64 31) W Tryz.underlying139 (by omega) rfl size_int agg_int
 go_enter Tryz.func76, Tryz.ntmps76
 go_wp2
 go_ret
 exact ⟨rfl, rfl⟩
theorem rdays_9 (y : Int) (w : World) (h0 : 1900 ≤ y) (h1 : y ≤ 2199) : Calls Tryz.prog 76 #[.int .i64 y, .int .i64 9] w fun e w' => e = .returned (.int .i64 30) ∧ w = w' := by
 have hx : ∀ W : World, (Instr.index 139 (.agg #[.int .i64 31, .int .i64 28, .int .i64 31, .int .i64 30, .int .i64 31, .int .i64 30, .int .i64 31, .int .i64 31, .int .i64 30, .int .i64 31, .int .i64 30, .int .i64 31]) (.int .i64 8)).run Tryz.prog W = .ok (.int .i64 30) W := fun W => run_index_arr (P := Tryz.prog) 139 3 12 mlens .i64 8 (.int .i64 30) W Tryz.underlying139 (by omega) rfl size_int agg_int
 go_enter Tryz.func76, Tryz.ntmps76
 go_wp2
 go_ret
 exact ⟨rfl, rfl⟩
theorem rdays_10 (y : Int) (w : World) (h0 : 1900 ≤ y) (h1 : y ≤ 2199) : Calls Tryz.prog 76 #[.int .i64 y, .int .i64 10] w fun e w' => e = .returned (.int .i64 31) ∧ w = w' := by
 have hx : ∀ W : World, (Instr.index 139 (.agg #[.int .i64 31, .int .i64 28, .int .i64 31, .int .i64 30, .int .i64 31, .int .i64 30, .int .i64 31, .int .i64 31, .int .i64 30, .int .i64 31, .int .i64 30, .int .i64 31]) (.int .i64 9)).run Tryz.prog W = .ok (.int .i64 31) W := fun W => run_index_arr (P := Tryz.prog) 139 3 12 mlens .i64 9 (.int .i64 31) W Tryz.underlying139 (by omega) rfl size_int agg_int
 go_enter Tryz.func76, Tryz.ntmps76
 go_wp2
 go_ret
 exact ⟨rfl, rfl⟩
theorem rdays_11 (y : Int) (w : World) (h0 : 1900 ≤ y) (h1 : y ≤ 2199) : Calls Tryz.prog 76 #[.int .i64 y, .int .i64 11] w fun e w' => e = .returned (.int .i64 30) ∧ w = w' := by
 have hx : ∀ W : World, (Instr.index 139 (.agg #[.int .i64 31, .int .i64 28, .int .i64 31, .int .i64 30, .int .i64 31, .int .i64 30, .int .i64 31, .int .i64 31, .int .i64 30, .int .i64 31, .int .i64 30, .int .i64 31]) (.int .i64 10)).run Tryz.prog W = .ok (.int .i64 30) W := fun W => run_index_arr (P := Tryz.prog) 139 3 12 mlens .i64 10 (.int .i64 30) W Tryz.underlying139 (by omega) rfl size_int agg_int
 go_enter Tryz.func76, Tryz.ntmps76
 go_wp2
 go_ret
 exact ⟨rfl, rfl⟩
theorem rdays_12 (y : Int) (w : World) (h0 : 1900 ≤ y) (h1 : y ≤ 2199) : Calls Tryz.prog 76 #[.int .i64 y, .int .i64 12] w fun e w' => e = .returned (.int .i64 31) ∧ w = w' := by
 have hx : ∀ W : World, (Instr.index 139 (.agg #[.int .i64 31, .int .i64 28, .int .i64 31, .int .i64 30, .int .i64 31, .int .i64 30, .int .i64 31, .int .i64 31, .int .i64 30, .int .i64 31, .int .i64 30, .int .i64 31]) (.int .i64 11)).run Tryz.prog W = .ok (.int .i64 31) W := fun W => run_index_arr (P := Tryz.prog) 139 3 12 mlens .i64 11 (.int .i64 31) W Tryz.underlying139 (by omega) rfl size_int agg_int
 go_enter Tryz.func76, Tryz.ntmps76
 go_wp2
 go_ret
 exact ⟨rfl, rfl⟩
theorem rdays_any (y m : Int) (w : World) : Calls Tryz.prog 76 #[.int .i64 y, .int .i64 m] w fun e w' => e = .returned (.int .i64 (dys y m)) ∧ w = w' := by
 cases h : inYM y m
 ·rw [dys_out h]; exact rdays_out y m w h
 ·rw [dys_in h]
  obtain ⟨a, b, c, d⟩ := inYM_iff.1 h
  clear h
  rcases twelve c d with rfl | rfl | rfl | rfl | rfl | rfl | rfl | rfl | rfl | rfl | rfl | rfl
  ·exact rdays_1 y w a b
  ·exact rdays_two y w a b
  ·exact rdays_3 y w a b
  ·exact rdays_4 y w a b
  ·exact rdays_5 y w a b
  ·exact rdays_6 y w a b
  ·exact rdays_7 y w a b
  ·exact rdays_8 y w a b
  ·exact rdays_9 y w a b
  ·exact rdays_10 y w a b
  ·exact rdays_11 y w a b
  ·exact rdays_12 y w a b

/- The tests of Of, as they show. -/
theorem dayB_no {y m d : Int} (h : dayB y m d = false) : d < 1 ∨ ¬ d < 1 ∧ dys y m < d := by
 have h2 : ¬ (1 ≤ d ∧ d ≤ dys y m) := fun e => by
  have h3 : dayB y m d = true := by unfold dayB; rw [decide_eq_true e.1, decide_eq_true e.2]; rfl
  rw [h3] at h; cases h
 omega
theorem dayB_yes {y m d : Int} (h : dayB y m d = true) : ¬ d < 1 ∧ ¬ dys y m < d := by
 unfold dayB at h
 rw [Bool.and_eq_true, decide_eq_true_eq, decide_eq_true_eq] at h
 omega
theorem of_no (y m d : Int) (w : World) (h : dayB y m d = false) : Calls Tryz.prog 127 #[.int .i64 y, .int .i64 m, .int .i64 d] w fun e w' => e = .returned (.tuple #[.int .i64 0, .int .i64 2]) ∧ Below w.heap.size w w' := by
 have hx := dayB_no h
 clear h
 have hB := Below.refl w.heap.size w
 rcases hx with h1 | ⟨h1, h2⟩
 ·go_enter Tryz.func127, Tryz.ntmps127
  go_wp2
  go_ret2
  exact ⟨rfl, hB⟩
 ·go_enter Tryz.func127, Tryz.ntmps127
  go_wp2_with (go_at_call 128; refine (days_any _ _ _).mono ?_; rintro e w' ⟨rfl, hb⟩; replace hB := below_more hB hb; clear hb)
  go_ret2
  exact ⟨rfl, hB⟩
theorem of_yes (y m d : Int) (w : World) (h : dayB y m d = true) : Calls Tryz.prog 127 #[.int .i64 y, .int .i64 m, .int .i64 d] w fun e w' => e = .returned (.tuple #[.int .i64 (dno y m d), .int .i64 0]) ∧ Below w.heap.size w w' := by
 have hc := dayB_iff.1 h
 obtain ⟨h1, h2⟩ := dayB_yes h
 obtain ⟨y0, y1, m0, m1, d0, d1, -⟩ := hc
 clear h
 have hB := Below.refl w.heap.size w
 have hn := nyr_bd (y := y) (by omega) (by omega)
 have hd := mdy_bd y m
 go_enter Tryz.func127, Tryz.ntmps127
 go_wp2_with (first | (go_at_call 128; refine (days_any _ _ _).mono ?_; rintro e w' ⟨rfl, hb⟩; replace hB := below_more hB hb; clear hb) | (go_at_call 147; refine (newYear_any _ _ (by omega) (by omega)).mono ?_; rintro e w' ⟨rfl, rfl⟩))
 go_loopw [8, 9] (fun v1 v2 w1 => ∃ b : Int, 1 ≤ b ∧ b ≤ m ∧ v2 = .int .i64 b ∧ v1 = .int .i64 (nyr y + d - 1 + mon y b) ∧ Below w.heap.size w w1) (fun v1 v2 w1 => (m - intOf v2).toNat)
 case atStart => exact ⟨1, by omega, by omega, rfl, by rw [mon_1]; go_num, hB⟩
 case round =>
  obtain ⟨b, b0, b1, rfl, rfl, hB1⟩ := hrel
  have hm := mon_bd (y := y) (m := b) (by omega) (by omega)
  have hl := lpI_01 y
  by_cases hlt : b < m
  ·have hs := mon_succ y b (by omega) (by omega)
   have hb0 := mdy_bd y b
   have hi : inYM y b = true := inYM_iff.2 ⟨by omega, by omega, by omega, by omega⟩
   have hy := fun w => days_any y b w
   rw [dys_in hi] at hy
   have HY := Lib.hid hy
   have HS := Lib.hid hs
   clear hy hs hi
   go_wp2_with (go_at_call 128; refine (HY.out _).mono ?_; rintro e w' ⟨rfl, hb⟩; replace hB1 := below_more hB1 hb; clear hb)
   go_roundw
   case rel => exact ⟨b + 1, by omega, by omega, rfl, by rw [HS.out]; go_num, hB1⟩
   case measure => simp [intOf]; omega
  ·obtain rfl : b = m := by omega
   go_wp2
   go_ret2
   exact ⟨by unfold dno; go_num, hB1⟩
theorem rof_no (y m d : Int) (w : World) (h : dayB y m d = false) : Calls Tryz.prog 102 #[.int .i64 y, .int .i64 m, .int .i64 d] w fun e w' => e = .returned (.tuple #[.int .i64 0, .int .i64 2]) ∧ w = w' := by
 have hx := dayB_no h
 clear h
 rcases hx with h1 | ⟨h1, h2⟩
 ·go_enter Tryz.func102, Tryz.ntmps102
  go_wp2
  go_ret2
  exact ⟨rfl, rfl⟩
 ·go_enter Tryz.func102, Tryz.ntmps102
  go_wp2_with (go_at_call 76; refine (rdays_any _ _ _).mono ?_; rintro e w' ⟨rfl, rfl⟩)
  go_ret2
  exact ⟨rfl, rfl⟩
theorem rof_yes (y m d : Int) (w : World) (h : dayB y m d = true) : Calls Tryz.prog 102 #[.int .i64 y, .int .i64 m, .int .i64 d] w fun e w' => e = .returned (.tuple #[.int .i64 (dno y m d), .int .i64 0]) ∧ w = w' := by
 have hc := dayB_iff.1 h
 obtain ⟨h1, h2⟩ := dayB_yes h
 obtain ⟨y0, y1, m0, m1, d0, d1, -⟩ := hc
 clear h
 have hn := nyr_bd (y := y) (by omega) (by omega)
 have hd := mdy_bd y m
 go_enter Tryz.func102, Tryz.ntmps102
 go_wp2_with (go_at_call 76; refine (rdays_any _ _ _).mono ?_; rintro e w' ⟨rfl, rfl⟩)
 go_loop [8, 9] (fun v1 v2 => ∃ a : Int, 1900 ≤ a ∧ a ≤ y ∧ v2 = .int .i64 a ∧ v1 = .int .i64 (nyr a)) (fun v1 v2 => (y - intOf v2).toNat)
 case atStart => exact ⟨1900, by omega, by omega, rfl, rfl⟩
 case round =>
  obtain ⟨a, a0, a1, rfl, rfl⟩ := hrel
  have hb := nyr_bd (y := a) (by omega) (by omega)
  by_cases hlt : a < y
  ·have hs := nyr_succ a (by omega)
   have hi := fun w => rleap_any a w (by omega)
   unfold lpI at hs
   have HS := Lib.hid hs
   clear hs
   cases hl : lpB a
   all_goals
    rw [hl] at hi HS
    have HI := Lib.hid hi
    clear hi hl
    go_wp2_with (go_at_call 105; refine (HI.out _).mono ?_; rintro e w' ⟨rfl, rfl⟩)
    go_round
    case rel => exact ⟨a + 1, by omega, by omega, rfl, by first | (rw [HS.out]; done) | (rw [HS.out]; simp)⟩
    case measure => simp [intOf]; omega
  ·obtain rfl : a = y := by omega
   go_wp2
   go_loop [8, 10] (fun v1 v2 => ∃ b : Int, 1 ≤ b ∧ b ≤ m ∧ v2 = .int .i64 b ∧ v1 = .int .i64 (nyr a + mon a b)) (fun v1 v2 => (m - intOf v2).toNat)
   case atStart => exact ⟨1, by omega, by omega, rfl, by rw [mon_1]; go_num⟩
   case round =>
    obtain ⟨b, b0, b1, rfl, rfl⟩ := hrel
    have hm := mon_bd (y := a) (m := b) (by omega) (by omega)
    have hl := lpI_01 a
    by_cases hlt : b < m
    ·have hs := mon_succ a b (by omega) (by omega)
     have hb0 := mdy_bd a b
     have hi : inYM a b = true := inYM_iff.2 ⟨by omega, by omega, by omega, by omega⟩
     have hy := fun w => rdays_any a b w
     rw [dys_in hi] at hy
     have HY := Lib.hid hy
     have HS := Lib.hid hs
     clear hy hs hi
     go_wp2_with (go_at_call 76; refine (HY.out _).mono ?_; rintro e w' ⟨rfl, rfl⟩)
     go_round
     case rel => exact ⟨b + 1, by omega, by omega, rfl, by rw [HS.out]; go_num⟩
     case measure => simp [intOf]; omega
    ·obtain rfl : b = m := by omega
     go_wp2
     go_ret2
     exact ⟨by unfold dno; go_num, rfl⟩
theorem dtrof_any (y m d : Int) (w : World) : Calls Tryz.prog 102 #[.int .i64 y, .int .i64 m, .int .i64 d] w fun e w' => e = .returned (.tuple #[.int .i64 (ofN y m d), .int .i64 (ofE y m d)]) ∧ w = w' := by
 unfold ofN ofE
 cases h : dayB y m d
 ·exact rof_no y m d w h
 ·exact rof_yes y m d w h
theorem civ_no (n : Int) (w : World) (h : vdB n = false) : Calls Tryz.prog 181 #[.int .i64 n] w fun e w' => e = .returned (.tuple #[.int .i64 0, .int .i64 0, .int .i64 0, .int .i64 2]) ∧ w = w' := by
 have hv := fun w => vd_any n w
 rw [h] at hv
 have HV := Lib.hid hv
 clear hv h
 go_enter Tryz.func181, Tryz.ntmps181
 go_wp2_with (go_at_call 178; refine (HV.out _).mono ?_; rintro e w' ⟨rfl, rfl⟩)
 exact bodyPost_ret (v := .tuple #[.int .i64 0, .int .i64 0, .int .i64 0, .int .i64 2]) (by simp [results, Tryz.results181, go_sem]) rfl ⟨rfl, rfl⟩
theorem civ_loop {n y m d : Int} (h : IsCiv n y m d) {b : Int} (b0 : 1 ≤ b) (b1 : b ≤ m) : (b < m → mdy y b < n - nyr y - mon y b + 1) ∧ (b = m → ¬ mdy y b < n - nyr y - mon y b + 1) := by
 obtain ⟨y0, y1, m0, m1, d0, d1, rfl⟩ := h
 unfold dno
 constructor
 ·intro hlt
  have h1 := mon_succ y b b0 (by omega)
  have h2 := mon_mono (y := y) (m := b + 1) (n := m) (by omega) (by omega) (by omega)
  omega
 ·rintro rfl
  omega
theorem civ_yes (n y m d : Int) (w : World) (h : IsCiv n y m d) : Calls Tryz.prog 181 #[.int .i64 n] w fun e w' => e = .returned (.tuple #[.int .i64 y, .int .i64 m, .int .i64 d, .int .i64 0]) ∧ Below w.heap.size w w' := by
 have hv := fun w => vd_any n w
 have hv1 := vdB_iff.2 h.bd
 rw [hv1] at hv
 have HV := Lib.hid hv
 obtain ⟨n0, n1⟩ := h.bd
 obtain ⟨c0, c1, c2, c3⟩ := civY_bd n0 n1
 have hY := (civ_eq h).1
 have HC := Lib.hid h
 have hd : n - nyr y - mon y m + 1 = d := by have := h.eq; unfold dno at this; omega
 obtain ⟨y0, y1, m0, m1, d0, d1, -⟩ := h
 have hB := Below.refl w.heap.size w
 have e0 : civY0 n = 1900 + (n + 25567) / 365 := rfl
 have k0 : 1900 ≤ civY0 n := by omega
 have k1 : civY0 n ≤ 2200 := by omega
 have e1 : civY n = if n < nyr (civY0 n) then civY0 n - 1 else civY0 n := rfl
 clear hv hv1
 by_cases hg : n < nyr (civY0 n)
 ·rw [if_pos hg] at e1
  have e2 : civY0 n - 1 = y := by omega
  rw [e0] at hg e2 k0 k1
  have k2 : -25567 ≤ nyr (1900 + (n + 25567) / 365) ∧ nyr (1900 + (n + 25567) / 365) ≤ 84006 := nyr_bd k0 (by omega)
  have k3 : 1900 ≤ 1900 + (n + 25567) / 365 - 1 := by omega
  have k4 : -25567 ≤ nyr (1900 + (n + 25567) / 365 - 1) ∧ nyr (1900 + (n + 25567) / 365 - 1) ≤ 84006 := nyr_bd k3 (by omega)
  have E2 := Lib.hid e2
  have HD := Lib.hid hd
  clear e0 e1 e2 hY hd
  go_enter Tryz.func181, Tryz.ntmps181
  go_wp2_with (first | (go_at_call 178; refine (HV.out _).mono ?_; rintro e w' ⟨rfl, rfl⟩) | (go_at_call 147; refine (newYear_any _ _ (by omega) (by omega)).mono ?_; rintro e w' ⟨rfl, rfl⟩))
  rw [E2.out]
  go_loopw [3, 4] (fun v1 v2 w1 => ∃ b : Int, 1 ≤ b ∧ b ≤ m ∧ v1 = .int .i64 b ∧ v2 = .int .i64 (n - nyr y - mon y b + 1) ∧ Below w.heap.size w w1) (fun v1 v2 w1 => (m - intOf v1).toNat)
  case atStart => exact ⟨1, by omega, by omega, rfl, by rw [mon_1]; go_num, hB⟩
  case round =>
   obtain ⟨b, b0, b1, rfl, rfl, hB1⟩ := hrel
   have hm := mon_bd (y := y) (m := b) (by omega) (by omega)
   have hlp := lpI_01 y
   have hnb := nyr_bd (y := y) (by omega) (by omega)
   have hL := civ_loop HC.out b0 b1
   have hb0 := mdy_bd y b
   have hi : inYM y b = true := inYM_iff.2 ⟨by omega, by omega, by omega, by omega⟩
   have hy := fun w => days_any y b w
   rw [dys_in hi] at hy
   have HY := Lib.hid hy
   clear hy hi
   by_cases hlt : b < m
   ·have hs := mon_succ y b (by omega) (by omega)
    have hL2 := hL.1 hlt
    have HS := Lib.hid hs
    clear hs hL
    go_wp2_with (go_at_call 128; refine (HY.out _).mono ?_; rintro e w' ⟨rfl, hb⟩; replace hB1 := below_more hB1 hb; clear hb)
    go_roundw
    case rel => exact ⟨b + 1, by omega, by omega, rfl, by rw [HS.out]; go_num, hB1⟩
    case measure => simp [intOf]; omega
   ·obtain rfl : b = m := by omega
    have hL2 := hL.2 rfl
    clear hL hlt
    go_wp2_with (go_at_call 128; refine (HY.out _).mono ?_; rintro e w' ⟨rfl, hb⟩; replace hB1 := below_more hB1 hb; clear hb)
    exact bodyPost_ret (v := .tuple #[.int .i64 y, .int .i64 b, .int .i64 (n - nyr y - mon y b + 1), .int .i64 0]) (by simp [results, Tryz.results181, go_sem]) rfl ⟨by rw [HD.out], hB1⟩
 ·rw [if_neg hg] at e1
  have e2 : civY0 n = y := by omega
  rw [e0] at hg e2 k0 k1
  have k2 : -25567 ≤ nyr (1900 + (n + 25567) / 365) ∧ nyr (1900 + (n + 25567) / 365) ≤ 84006 := nyr_bd k0 (by omega)
  have E2 := Lib.hid e2
  have HD := Lib.hid hd
  clear e0 e1 e2 hY hd
  go_enter Tryz.func181, Tryz.ntmps181
  go_wp2_with (first | (go_at_call 178; refine (HV.out _).mono ?_; rintro e w' ⟨rfl, rfl⟩) | (go_at_call 147; refine (newYear_any _ _ (by omega) (by omega)).mono ?_; rintro e w' ⟨rfl, rfl⟩))
  rw [E2.out]
  go_loopw [3, 4] (fun v1 v2 w1 => ∃ b : Int, 1 ≤ b ∧ b ≤ m ∧ v1 = .int .i64 b ∧ v2 = .int .i64 (n - nyr y - mon y b + 1) ∧ Below w.heap.size w w1) (fun v1 v2 w1 => (m - intOf v1).toNat)
  case atStart => exact ⟨1, by omega, by omega, rfl, by rw [mon_1]; go_num, hB⟩
  case round =>
   obtain ⟨b, b0, b1, rfl, rfl, hB1⟩ := hrel
   have hm := mon_bd (y := y) (m := b) (by omega) (by omega)
   have hlp := lpI_01 y
   have hnb := nyr_bd (y := y) (by omega) (by omega)
   have hL := civ_loop HC.out b0 b1
   have hb0 := mdy_bd y b
   have hi : inYM y b = true := inYM_iff.2 ⟨by omega, by omega, by omega, by omega⟩
   have hy := fun w => days_any y b w
   rw [dys_in hi] at hy
   have HY := Lib.hid hy
   clear hy hi
   by_cases hlt : b < m
   ·have hs := mon_succ y b (by omega) (by omega)
    have hL2 := hL.1 hlt
    have HS := Lib.hid hs
    clear hs hL
    go_wp2_with (go_at_call 128; refine (HY.out _).mono ?_; rintro e w' ⟨rfl, hb⟩; replace hB1 := below_more hB1 hb; clear hb)
    go_roundw
    case rel => exact ⟨b + 1, by omega, by omega, rfl, by rw [HS.out]; go_num, hB1⟩
    case measure => simp [intOf]; omega
   ·obtain rfl : b = m := by omega
    have hL2 := hL.2 rfl
    clear hL hlt
    go_wp2_with (go_at_call 128; refine (HY.out _).mono ?_; rintro e w' ⟨rfl, hb⟩; replace hB1 := below_more hB1 hb; clear hb)
    exact bodyPost_ret (v := .tuple #[.int .i64 y, .int .i64 b, .int .i64 (n - nyr y - mon y b + 1), .int .i64 0]) (by simp [results, Tryz.results181, go_sem]) rfl ⟨by rw [HD.out], hB1⟩
theorem civ_any (n : Int) (w : World) (h : vdB n = true) : Calls Tryz.prog 181 #[.int .i64 n] w fun e w' => e = .returned (.tuple #[.int .i64 (civY n), .int .i64 (civM n), .int .i64 (civD n), .int .i64 0]) ∧ Below w.heap.size w w' := civ_yes n _ _ _ w (civ_is h)
theorem rciv_no (n : Int) (w : World) (h : vdB n = false) : Calls Tryz.prog 75 #[.int .i64 n] w fun e w' => e = .returned (.tuple #[.int .i64 0, .int .i64 0, .int .i64 0, .int .i64 2]) ∧ w = w' := by
 have hv := fun w => rvd_any n w
 rw [h] at hv
 have HV := Lib.hid hv
 clear hv h
 go_enter Tryz.func75, Tryz.ntmps75
 go_wp2_with (go_at_call 104; refine (HV.out _).mono ?_; rintro e w' ⟨rfl, rfl⟩)
 exact bodyPost_ret (v := .tuple #[.int .i64 0, .int .i64 0, .int .i64 0, .int .i64 2]) (by simp [results, Tryz.results75, go_sem]) rfl ⟨rfl, rfl⟩
theorem rciv_year {n y m d : Int} (h : IsCiv n y m d) {a : Int} (a0 : 1900 ≤ a) (a1 : a ≤ y) : (a < y → 365 + lpI a ≤ n - nyr a) ∧ (a = y → n - nyr a < 365 + lpI a ∧ 0 ≤ n - nyr a) ∧ 0 ≤ n - nyr a := by
 have hy := h.yr
 have hs := nyr_succ a a0
 refine ⟨fun hlt => ?_, ?_, ?_⟩
 ·have h1 := nyr_mono (y := a + 1) (z := y) (by omega) (by omega)
  omega
 ·rintro rfl
  omega
 ·have h1 := nyr_mono (y := a) (z := y) (by omega) (by omega)
  omega
theorem rciv_yes (n y m d : Int) (w : World) (h : IsCiv n y m d) : Calls Tryz.prog 75 #[.int .i64 n] w fun e w' => e = .returned (.tuple #[.int .i64 y, .int .i64 m, .int .i64 d, .int .i64 0]) ∧ w = w' := by
 have hv := fun w => rvd_any n w
 have hv1 := vdB_iff.2 h.bd
 rw [hv1] at hv
 have HV := Lib.hid hv
 have HC := Lib.hid h
 obtain ⟨n0, n1⟩ := h.bd
 have hd : n - nyr y - mon y m + 1 = d := by have := h.eq; unfold dno at this; omega
 have HD := Lib.hid hd
 obtain ⟨y0, y1, m0, m1, d0, d1, -⟩ := h
 clear hv hv1 hd
 go_enter Tryz.func75, Tryz.ntmps75
 go_wp2_with (go_at_call 104; refine (HV.out _).mono ?_; rintro e w' ⟨rfl, rfl⟩)
 go_loop [6, 8] (fun v1 v2 => ∃ a : Int, 1900 ≤ a ∧ a ≤ y ∧ v1 = .int .i64 a ∧ v2 = .int .i64 (n - nyr a)) (fun v1 v2 => (y - intOf v1).toNat)
 case atStart => exact ⟨1900, by omega, by omega, rfl, by rw [nyr_1900]; go_num⟩
 case round =>
  obtain ⟨a, a0, a1, rfl, rfl⟩ := hrel
  obtain ⟨hA1, hA2, hA3⟩ := rciv_year HC.out a0 a1
  have hab := nyr_bd (y := a) (by omega) (by omega)
  have hs := nyr_succ a (by omega)
  have hi := fun w => rleap_any a w (by omega)
  by_cases hlt : a < y
  ·replace hA1 := hA1 hlt
   clear hA2
   unfold lpI at hs hA1
   have HS := Lib.hid hs
   clear hs
   cases hl : lpB a
   all_goals
    rw [hl] at hi HS hA1
    have HI := Lib.hid hi
    clear hi hl
    simp only [Bool.false_eq_true, if_false, if_true] at hA1
    go_wp2_with (go_at_call 105; refine (HI.out _).mono ?_; rintro e w' ⟨rfl, rfl⟩)
    go_round
    case rel => exact ⟨a + 1, by omega, by omega, rfl, by rw [HS.out]; go_num⟩
    case measure => simp [intOf]; omega
  ·obtain rfl : a = y := by omega
   obtain ⟨hA4, -⟩ := hA2 rfl
   clear hA2 hA1 hs hlt
   have hlp := lpI_01 a
   have hfin : ∀ (P : Prop), P → P := fun _ h => h
   unfold lpI at hA4
   cases hl : lpB a
   all_goals
    rw [hl] at hi hA4
    have HI := Lib.hid hi
    clear hi hl hfin
    simp only [Bool.false_eq_true, if_false, if_true] at hA4
    go_wp2_with (go_at_call 105; refine (HI.out _).mono ?_; rintro e w' ⟨rfl, rfl⟩)
    go_loop [7, 8] (fun v1 v2 => ∃ b : Int, 1 ≤ b ∧ b ≤ m ∧ v1 = .int .i64 b ∧ v2 = .int .i64 (n - nyr a - mon a b)) (fun v1 v2 => (m - intOf v1).toNat)
    case atStart => exact ⟨1, by omega, by omega, rfl, by rw [mon_1]; go_num⟩
    case round =>
     obtain ⟨b, b0, b1, rfl, rfl⟩ := hrel
     have hm := mon_bd (y := a) (m := b) (by omega) (by omega)
     have hL := civ_loop HC.out b0 b1
     have hb0 := mdy_bd a b
     have hi : inYM a b = true := inYM_iff.2 ⟨by omega, by omega, by omega, by omega⟩
     have hy := fun w => rdays_any a b w
     rw [dys_in hi] at hy
     have HY := Lib.hid hy
     clear hy hi
     by_cases hlt : b < m
     ·have hs := mon_succ a b (by omega) (by omega)
      have hL2 : mdy a b ≤ n - nyr a - mon a b := by have := hL.1 hlt; omega
      have HS := Lib.hid hs
      clear hs hL
      go_wp2_with (go_at_call 76; refine (HY.out _).mono ?_; rintro e w' ⟨rfl, rfl⟩)
      go_round
      case rel => exact ⟨b + 1, by omega, by omega, rfl, by rw [HS.out]; go_num⟩
      case measure => simp [intOf]; omega
     ·obtain rfl : b = m := by omega
      have hL2 : n - nyr a - mon a b < mdy a b := by have := hL.2 rfl; omega
      clear hL hlt
      go_wp2_with (go_at_call 76; refine (HY.out _).mono ?_; rintro e w' ⟨rfl, rfl⟩)
      exact bodyPost_ret (v := .tuple #[.int .i64 a, .int .i64 b, .int .i64 (n - nyr a - mon a b + 1), .int .i64 0]) (by simp [results, Tryz.results75, go_sem]) rfl ⟨by rw [HD.out], rfl⟩
theorem rciv_any (n : Int) (w : World) (h : vdB n = true) : Calls Tryz.prog 75 #[.int .i64 n] w fun e w' => e = .returned (.tuple #[.int .i64 (civY n), .int .i64 (civM n), .int .i64 (civD n), .int .i64 0]) ∧ w = w' := rciv_yes n _ _ _ w (civ_is h)
theorem ret_two {a b c d : Int} (h1 : a = c) (h2 : b = d) : Ending.returned (.tuple #[.int .i64 a, .int .i64 b]) = .returned (.tuple #[.int .i64 c, .int .i64 d]) := by rw [h1, h2]
/- The month that lies k months after that of n. -/
def amT (n k : Int) : Int := 12 * civY n + civM n - 1 + k
def nearB (k : Int) : Bool := decide (-3600 ≤ k) && decide (k ≤ 3600)
theorem nearB_iff {k : Int} : nearB k = true ↔ -3600 ≤ k ∧ k ≤ 3600 := by simp [nearB]
def adY (n k : Int) : Int := amT n k / 12
def adM (n k : Int) : Int := amT n k % 12 + 1
def adD (n k : Int) : Int := min (civD n) (dys (adY n k) (adM n k))
def adB (n k : Int) : Bool := vdB n && nearB k
def adN (n k : Int) : Int := if adB n k then ofN (adY n k) (adM n k) (adD n k) else 0
def adE (n k : Int) : Int := if adB n k then ofE (adY n k) (adM n k) (adD n k) else 2
theorem no_days {Y M e : Int} (h : dys Y M = 0) : ofN Y M e = 0 ∧ ofE Y M e = 2 := by
 have hd : dayB Y M e = false := by
  cases hc : dayB Y M e
  ·rfl
  ·have := dayB_yes hc; omega
 unfold ofN ofE
 rw [hd]
 exact ⟨rfl, rfl⟩
theorem radd_no (n k : Int) (w : World) (h : vdB n = false) : Calls Tryz.prog 103 #[.int .i64 n, .int .i64 k] w fun e w' => e = .returned (.tuple #[.int .i64 (adN n k), .int .i64 (adE n k)]) ∧ w = w' := by
 have hv := fun w => rciv_no n w h
 rw [show adN n k = 0 by unfold adN adB; rw [h]; rfl, show adE n k = 2 by unfold adE adB; rw [h]; rfl]
 have HV := Lib.hid hv
 clear hv h
 go_enter Tryz.func103, Tryz.ntmps103
 go_wp2_with (go_at_call 75; refine (HV.out _).mono ?_; rintro e w' ⟨rfl, rfl⟩)
 go_ret2
 exact ⟨rfl, rfl⟩
theorem radd_far (n k : Int) (w : World) (h : vdB n = true) (hk : nearB k = false) : Calls Tryz.prog 103 #[.int .i64 n, .int .i64 k] w fun e w' => e = .returned (.tuple #[.int .i64 (adN n k), .int .i64 (adE n k)]) ∧ w = w' := by
 have hv := fun w => rciv_any n w h
 rw [show adN n k = 0 by unfold adN adB; rw [h, hk]; rfl, show adE n k = 2 by unfold adE adB; rw [h, hk]; rfl]
 have hk2 : k < -3600 ∨ ¬ k < -3600 ∧ 3600 < k := by
  have h2 : ¬ (-3600 ≤ k ∧ k ≤ 3600) := fun e => by rw [nearB_iff.2 e] at hk; cases hk
  omega
 have HV := Lib.hid hv
 clear hv h hk
 rcases hk2 with hk2 | ⟨hk2, hk3⟩
 all_goals
  go_enter Tryz.func103, Tryz.ntmps103
  go_wp2_with (go_at_call 75; refine (HV.out _).mono ?_; rintro e w' ⟨rfl, rfl⟩)
  go_ret2
  exact ⟨rfl, rfl⟩
theorem radd_near (n k : Int) (w : World) (h : vdB n = true) (hk : nearB k = true) : Calls Tryz.prog 103 #[.int .i64 n, .int .i64 k] w fun e w' => e = .returned (.tuple #[.int .i64 (adN n k), .int .i64 (adE n k)]) ∧ w = w' := by
 have hv := fun w => rciv_any n w h
 rw [show adN n k = ofN (adY n k) (adM n k) (adD n k) by unfold adN adB; rw [h, hk]; rfl, show adE n k = ofE (adY n k) (adM n k) (adD n k) by unfold adE adB; rw [h, hk]; rfl]
 obtain ⟨y0, y1, m0, m1, d0, d1, -⟩ := civ_is h
 obtain ⟨k0, k1⟩ := nearB_iff.1 hk
 have hmd := mdy_bd (civY n) (civM n)
 have hdy := dys_bd (adY n k) (adM n k)
 have hno : inYM (adY n k) (adM n k) = false → ∀ e, ofN (adY n k) (adM n k) e = 0 ∧ ofE (adY n k) (adM n k) e = 2 := fun h e => no_days (dys_out h)
 have hin : inYM (adY n k) (adM n k) = false → (adY n k < 1900 ∨ 2199 < adY n k) := fun hi => by
  have h2 : ¬ (1900 ≤ adY n k ∧ adY n k ≤ 2199 ∧ 1 ≤ adM n k ∧ adM n k ≤ 12) := fun e => by rw [inYM_iff.2 e] at hi; cases hi
  have h3 : 0 ≤ amT n k % 12 ∧ amT n k % 12 < 12 := by omega
  have h4 : adM n k = amT n k % 12 + 1 := rfl
  omega
 have hin2 : inYM (adY n k) (adM n k) = true → (1900 ≤ adY n k ∧ adY n k ≤ 2199) := fun hi => by
  have := inYM_iff.1 hi
  omega
 cases hi : inYM (adY n k) (adM n k)
 ·rw [(hno hi _).1, (hno hi _).2]
  have hx : adY n k < 1900 ∨ ¬ adY n k < 1900 ∧ 2199 < adY n k := by have := hin hi; omega
  unfold adY amT at hx
  clear hno hin hin2 hi hdy hmd
  generalize civY n = y at *
  generalize civM n = m at *
  generalize civD n = d at *
  have HV := Lib.hid hv
  clear hv h hk
  rcases hx with hx | ⟨hx, hx2⟩
  all_goals
   go_enter Tryz.func103, Tryz.ntmps103
   go_wp2_with (go_at_call 75; refine (HV.out _).mono ?_; rintro e w' ⟨rfl, rfl⟩)
   go_ret2
   exact ⟨rfl, rfl⟩
 ·obtain ⟨z0, z1⟩ := hin2 hi
  clear hno hin hin2 hi
  unfold adD adY adM amT at *
  generalize civY n = y at *
  generalize civM n = m at *
  generalize civD n = d at *
  have HV := Lib.hid hv
  clear hv h hk
  go_enter Tryz.func103, Tryz.ntmps103
  go_wp2_with (first | (go_at_call 75; refine (HV.out _).mono ?_; rintro e w' ⟨rfl, rfl⟩) | (go_at_call 76; refine (rdays_any _ _ _).mono ?_; rintro e w' ⟨rfl, rfl⟩) | (go_at_call 102; refine (dtrof_any _ _ _ _).mono ?_; rintro e w' ⟨rfl, rfl⟩))
  all_goals
   go_ret2
   exact ⟨ret_two (by congr 1; omega) (by congr 1; omega), rfl⟩
theorem dtradd_any (n k : Int) (w : World) : Calls Tryz.prog 103 #[.int .i64 n, .int .i64 k] w fun e w' => e = .returned (.tuple #[.int .i64 (adN n k), .int .i64 (adE n k)]) ∧ w = w' := by
 cases h : vdB n
 ·exact radd_no n k w h
 ·cases hk : nearB k
  ·exact radd_far n k w h hk
  ·exact radd_near n k w h hk
open Go.Lib (decDigits)
def padk : Nat → Nat → List UInt8
 | 0, _ => []
 | k + 1, r => padk k (r / 10) ++ [UInt8.ofNat (48 + r % 10)]
def codes (l : List UInt8) : List Nat := l.map (·.toNat)
def bt (s : ByteArray) (i : Nat) : UInt8 := s.data.toList.getD i 0
theorem of_civ {n y m d : Int} (h : IsCiv n y m d) : ofN y m d = n ∧ ofE y m d = 0 := by
 unfold ofN ofE
 rw [dayB_of h]
 exact ⟨h.eq.symm, rfl⟩
theorem add_small {n y m d k : Int} (h : IsCiv n y m d) (hd : d ≤ 28) (hk : nearB k = true) : adN n k = ofN ((12 * y + m - 1 + k) / 12) ((12 * y + m - 1 + k) % 12 + 1) d ∧ adE n k = ofE ((12 * y + m - 1 + k) / 12) ((12 * y + m - 1 + k) % 12 + 1) d := by
 have hv := vdB_iff.2 h.bd
 obtain ⟨e1, e2, e3⟩ := civ_eq h
 unfold adN adE adB adD adY adM amT
 rw [hv, hk, e1, e2, e3]
 simp only [Bool.and_true, if_true]
 generalize (12 * y + m - 1 + k) / 12 = Y
 generalize (12 * y + m - 1 + k) % 12 + 1 = M
 cases hi : inYM Y M
 ·have e := dys_out hi
  exact ⟨by rw [(no_days e).1, (no_days e).1], by rw [(no_days e).2, (no_days e).2]⟩
 ·have e := dys_in hi
  have hb := mdy_bd Y M
  rw [e, Int.min_eq_left (by omega)]
  exact ⟨rfl, rfl⟩
def dgT (k : Nat) (n : Int) : ByteArray := ⟨(padk k n.toNat).toArray⟩
def civT (y m d : Int) : ByteArray := dgT 4 y ++ ⟨#[45]⟩ ++ dgT 2 m ++ ⟨#[45]⟩ ++ dgT 2 d
def txT (n : Int) : ByteArray := if vdB n then civT (civY n) (civM n) (civD n) else ⟨#[]⟩
def mno (y m : Int) : Int := 12 * y + m - 1
def mfst (T : Int) : Int := nyr (T / 12) + mon (T / 12) (T % 12 + 1)
def mln (T : Int) : Int := mdy (T / 12) (T % 12 + 1)
theorem mln_bd (T : Int) : 28 ≤ mln T ∧ mln T ≤ 31 := mdy_bd _ _
theorem mfst_succ (T : Int) (h : 22800 ≤ T) : mfst (T + 1) = mfst T + mln T := by
 unfold mfst mln
 have s := mon_succ (T / 12) (T % 12 + 1) (by omega) (by omega)
 by_cases h1 : T % 12 = 11
 ·rw [show (T + 1) / 12 = T / 12 + 1 by omega, show (T + 1) % 12 + 1 = 1 by omega, mon_1, nyr_succ (T / 12) (by omega)]
  rw [show T % 12 + 1 + 1 = 13 by omega, mon_13] at s
  omega
 ·rw [show (T + 1) / 12 = T / 12 by omega, show (T + 1) % 12 + 1 = T % 12 + 1 + 1 by omega, s]
  omega
theorem mfst_step (S : Int) (k : Nat) (h : 22800 ≤ S) : mfst S + 28 * k ≤ mfst (S + k) := by
 induction k with
 | zero => simp
 | succ k ih =>
  have h1 := mfst_succ (S + k) (by omega)
  have h2 := mln_bd (S + k)
  rw [show S + ((k + 1 : Nat) : Int) = S + k + 1 by omega, h1]
  omega
theorem mfst_mono {S T : Int} (h : 22800 ≤ S) (h1 : S ≤ T) : mfst S + 28 * (T - S) ≤ mfst T := by
 have h2 := mfst_step S (T - S).toNat h
 have h3 : ((T - S).toNat : Int) = T - S := Int.toNat_of_nonneg (by omega)
 rw [h3, show S + (T - S) = T by omega] at h2
 exact h2
theorem mfst_0 : mfst 22800 = -25567 := by decide
theorem mfst_end : mfst 26400 = 84006 := by decide
theorem mfst_bd {T : Int} (h : 22800 ≤ T) (h1 : T ≤ 26400) : -25567 ≤ mfst T ∧ mfst T ≤ 84006 := by
 have a := mfst_mono (Int.le_refl 22800) h
 have b := mfst_mono h h1
 rw [mfst_0] at a
 rw [mfst_end] at b
 omega
theorem mfst_civ {T d : Int} (h : 22800 ≤ T) (h1 : T ≤ 26399) (d0 : 1 ≤ d) (d1 : d ≤ mln T) : IsCiv (mfst T + d - 1) (T / 12) (T % 12 + 1) d :=
 ⟨by omega, by omega, by omega, by omega, d0, d1, rfl⟩
theorem mfst_one {T : Int} (h : 22800 ≤ T) (h1 : T ≤ 26399) : IsCiv (mfst T) (T / 12) (T % 12 + 1) 1 := by
 have := mfst_civ h h1 (Int.le_refl 1) (by have := mln_bd T; omega)
 rwa [show mfst T + 1 - 1 = mfst T by omega] at this
def mth (n : Int) : Int := mno (civY n) (civM n)
theorem mth_is {n : Int} (h : vdB n = true) : 22800 ≤ mth n ∧ mth n ≤ 26399 ∧ mfst (mth n) ≤ n ∧ n < mfst (mth n + 1) := by
 have hc := civ_is h
 have y0 := hc.y0
 have y1 := hc.y1
 have m0 := hc.m0
 have m1 := hc.m1
 have d0 := hc.d0
 have d1 := hc.d1
 have e : mth n = 12 * civY n + civM n - 1 := rfl
 have e1 : mth n / 12 = civY n := by omega
 have e2 : mth n % 12 + 1 = civM n := by omega
 have s := mfst_succ (mth n) (by omega)
 have f : mfst (mth n) = nyr (civY n) + mon (civY n) (civM n) := by unfold mfst; rw [e1, e2]
 have g : mln (mth n) = mdy (civY n) (civM n) := by unfold mln; rw [e1, e2]
 have q := hc.eq
 unfold dno at q
 refine ⟨by omega, by omega, by omega, by omega⟩
def fiB (y m p : Int) : Bool := inYM y m && (decide (22800 ≤ mno y m + p) && decide (mno y m + p ≤ 26399))
theorem fiB_iff {y m p : Int} : fiB y m p = true ↔ (1900 ≤ y ∧ y ≤ 2199 ∧ 1 ≤ m ∧ m ≤ 12) ∧ 22800 ≤ mno y m + p ∧ mno y m + p ≤ 26399 := by
 unfold fiB
 rw [Bool.and_eq_true, Bool.and_eq_true, inYM_iff, decide_eq_true_eq, decide_eq_true_eq]
def fiN (y m p : Int) : Int := if fiB y m p then mfst (mno y m + p) else 0
def fiE (y m p : Int) : Int := if fiB y m p then 0 else 2
theorem day_one (y m : Int) : dayB y m 1 = inYM y m := by
 unfold dayB
 cases h : inYM y m
 ·rw [dys_out h]; rfl
 ·have := mdy_bd y m
  rw [dys_in h, decide_eq_true (show (1 : Int) ≤ 1 by omega), decide_eq_true (show (1 : Int) ≤ mdy y m by omega)]
  rfl
theorem fi_none {y m : Int} (p : Int) (h : inYM y m = false) : ofN y m 1 = 0 ∧ ofE y m 1 = 2 ∧ fiN y m p = 0 ∧ fiE y m p = 2 := by
 unfold ofN ofE fiN fiE fiB
 rw [day_one, h]
 exact ⟨rfl, rfl, rfl, rfl⟩
theorem fi_some {y m : Int} (p : Int) (h : inYM y m = true) : ofN y m 1 = mfst (mno y m) ∧ ofE y m 1 = 0 ∧ adN (mfst (mno y m)) p = fiN y m p ∧ adE (mfst (mno y m)) p = fiE y m p := by
 obtain ⟨y0, y1, m0, m1⟩ := inYM_iff.1 h
 have e : mno y m = 12 * y + m - 1 := rfl
 have e1 : mno y m / 12 = y := by omega
 have e2 : mno y m % 12 + 1 = m := by omega
 have hc := mfst_one (T := mno y m) (by omega) (by omega)
 rw [e1, e2] at hc
 obtain ⟨o1, o2⟩ := of_civ hc
 refine ⟨o1, o2, ?_⟩
 have hv := vdB_iff.2 hc.bd
 obtain ⟨c1, c2, c3⟩ := civ_eq hc
 cases hp : nearB p
 ·have hf : fiB y m p = false := by
   cases hf : fiB y m p
   ·rfl
   ·have := (fiB_iff.1 hf).2
    have h2 : ¬ (-3600 ≤ p ∧ p ≤ 3600) := fun e => by rw [nearB_iff.2 e] at hp; cases hp
    omega
  unfold adN adE adB fiN fiE
  rw [hv, hp, hf]
  exact ⟨rfl, rfl⟩
 ·have hs := add_small hc (by omega) hp
  rw [hs.1, hs.2]
  have ek : 12 * y + m - 1 + p = mno y m + p := rfl
  rw [ek]
  cases hf : fiB y m p
  ·have hi : inYM ((mno y m + p) / 12) ((mno y m + p) % 12 + 1) = false := by
    cases hi : inYM ((mno y m + p) / 12) ((mno y m + p) % 12 + 1)
    ·rfl
    ·have h3 := inYM_iff.1 hi
     rw [fiB_iff.2 ⟨⟨y0, y1, m0, m1⟩, by omega, by omega⟩] at hf
     cases hf
   unfold fiN fiE
   rw [hf, (no_days (dys_out hi)).1, (no_days (dys_out hi)).2]
   exact ⟨rfl, rfl⟩
  ·obtain ⟨-, a, b⟩ := fiB_iff.1 hf
   obtain ⟨o3, o4⟩ := of_civ (mfst_one a b)
   unfold fiN fiE
   rw [hf, o3, o4]
   exact ⟨rfl, rfl⟩
/- Calendars. -/
def clV (y m k : Int) : Bool := decide (1 ≤ k) && (decide (k ≤ 120) && fiB y m (k - 1))
theorem clV_iff {y m k : Int} : clV y m k = true ↔ (1 ≤ k ∧ k ≤ 120) ∧ (1900 ≤ y ∧ y ≤ 2199 ∧ 1 ≤ m ∧ m ≤ 12) ∧ mno y m + k ≤ 26400 := by
 unfold clV
 rw [Bool.and_eq_true, Bool.and_eq_true, decide_eq_true_eq, decide_eq_true_eq, fiB_iff]
 have e : mno y m = 12 * y + m - 1 := rfl
 omega
def clE (y m k p : Int) : Int := if clV y m k then (if 0 ≤ p ∧ p < k then 0 else 2) else 1
theorem clE_bad {y m k : Int} (p : Int) (h : clV y m k = false) : clE y m k p = 1 := by unfold clE; rw [h]; rfl
theorem clE_out {y m k p : Int} (h : clV y m k = true) (hp : ¬ (0 ≤ p ∧ p < k)) : clE y m k p = 2 := by unfold clE; rw [h, if_pos rfl, if_neg hp]
theorem clE_in {y m k p : Int} (h : clV y m k = true) (hp : 0 ≤ p ∧ p < k) : clE y m k p = 0 := by unfold clE; rw [h, if_pos rfl, if_pos hp]
theorem clE_three (y m k p : Int) : (clV y m k = false ∧ clE y m k p = 1) ∨ (clV y m k = true ∧ ¬ (0 ≤ p ∧ p < k) ∧ clE y m k p = 2) ∨ (clV y m k = true ∧ (0 ≤ p ∧ p < k) ∧ clE y m k p = 0) := by
 cases h : clV y m k
 ·exact .inl ⟨rfl, clE_bad p h⟩
 ·by_cases hp : 0 ≤ p ∧ p < k
  ·exact .inr (.inr ⟨rfl, hp, clE_in h hp⟩)
  ·exact .inr (.inl ⟨rfl, hp, clE_out h hp⟩)
theorem cl_month {y m k p : Int} (h : clV y m k = true) (hp : 0 ≤ p ∧ p < k) : 22800 ≤ mno y m + p ∧ mno y m + p ≤ 26399 ∧ fiB y m p = true := by
 have h1 := clV_iff.1 h
 have e : mno y m = 12 * y + m - 1 := rfl
 have a : 22800 ≤ mno y m + p := by omega
 have b : mno y m + p ≤ 26399 := by omega
 exact ⟨a, b, fiB_iff.2 ⟨h1.2.1, a, b⟩⟩
def pdF (y m k p : Int) : Int := if clE y m k p = 0 then mfst (mno y m + p) else 0
def pdL (y m k p : Int) : Int := if clE y m k p = 0 then mfst (mno y m + p + 1) - 1 else 0
def pdY (y m k p : Int) : Int := if clE y m k p = 0 then p / 12 else 0
def pdB (y m k p : Int) : Int := if clE y m k p = 0 then mfst (mno y m + p - p % 12) else 0
def pdP (y m k p : Int) : Int := if clE y m k p = 0 ∧ 12 ≤ p then p - p % 12 - 1 else 0
def pdPE (y m k p : Int) : Int := if clE y m k p = 0 then (if p < 12 then 8 else 0) else clE y m k p
def pdT (y m k p : Int) : ByteArray := if clE y m k p = 0 then (txT (mfst (mno y m + p))).extract 0 7 else ⟨#[]⟩
def inP (y m k n : Int) : Bool := vdB n && (decide (0 ≤ mth n - mno y m) && decide (mth n - mno y m < k))
def prE (y m k n : Int) : Int := if clV y m k then (if inP y m k n then 0 else 2) else 1
def prN (y m k n : Int) : Int := if clV y m k && inP y m k n then mth n - mno y m else 0
theorem inP_iff {y m k n : Int} : inP y m k n = true ↔ vdB n = true ∧ 0 ≤ mth n - mno y m ∧ mth n - mno y m < k := by
 unfold inP
 rw [Bool.and_eq_true, Bool.and_eq_true, decide_eq_true_eq, decide_eq_true_eq]
theorem per_at {y m k n : Int} (h : inP y m k n = true) : (0 ≤ mth n - mno y m ∧ mth n - mno y m < k) ∧ mfst (mno y m + (mth n - mno y m)) ≤ n ∧ n < mfst (mno y m + (mth n - mno y m) + 1) := by
 obtain ⟨hv, a, b⟩ := inP_iff.1 h
 obtain ⟨-, -, c, d⟩ := mth_is hv
 rw [show mno y m + (mth n - mno y m) = mth n by omega]
 exact ⟨⟨a, b⟩, c, d⟩
theorem bl_inj {a b : ByteArray} (h : a.toList = b.toList) : a = b := by
 rw [ByteArray.toList_eq, ByteArray.toList_eq] at h
 exact ByteArray.ext (Array.toList_inj.1 h)
def allC (p : UInt8 → Bool) (s : ByteArray) : Bool := s.data.toList.all p
theorem tl_at (s : ByteArray) (k : Nat) (h : k < s.size) : s.data.toList[k]'(by simpa using h) = s[k] := by simp; rfl
theorem allC_no {p : UInt8 → Bool} {s : ByteArray} {k : Nat} (h : k < s.size) (hd : p (s[k]'h) = false) : allC p s = false := by
 cases ha : allC p s
 ·rfl
 ·unfold allC at ha
  rw [List.all_eq_true] at ha
  have := ha _ (List.getElem_mem (l := s.data.toList) (n := k) (by simpa using h))
  rw [tl_at s k h, hd] at this
  cases this
theorem allC_yes {p : UInt8 → Bool} {s : ByteArray} (h : ∀ j, (h2 : j < s.size) → p (s[j]'h2) = true) : allC p s = true := by
 unfold allC
 rw [List.all_eq_true]
 intro c hc
 obtain ⟨j, hj, rfl⟩ := List.getElem_of_mem hc
 rw [tl_at s j (by simpa using hj)]
 exact h j (by simpa using hj)
def capB (b : UInt8) : Bool := decide (65 ≤ b.toNat) && decide (b.toNat ≤ 90)
def letB (b : UInt8) : Bool := capB b || (decide (97 ≤ b.toNat) && decide (b.toNat ≤ 122))
def digB (b : UInt8) : Bool := decide (48 ≤ b.toNat) && decide (b.toNat ≤ 57)
def namB (b : UInt8) : Bool := letB b || (digB b || decide (b.toNat = 45))
def curB (s : ByteArray) : Bool := decide (s.size = 3) && allC capB s
def frsB (s : ByteArray) : Bool := if h : 0 < s.size then letB (s[0]'h) else false
def nameB (s : ByteArray) : Bool := decide (s.size ≤ 16) && (frsB s && allC namB s)
theorem curB_no {s : ByteArray} {k : Nat} (h : k < s.size) (hd : capB (s[k]'h) = false) : curB s = false := by
 unfold curB; rw [allC_no h hd]; simp
theorem nameB_no {s : ByteArray} {k : Nat} (h : k < s.size) (hd : namB (s[k]'h) = false) : nameB s = false := by
 unfold nameB; rw [allC_no h hd]; simp
theorem nameB_fr {s : ByteArray} (h : 0 < s.size) (hd : letB (s[0]'h) = false) : nameB s = false := by
 unfold nameB frsB; rw [dif_pos h, hd]; simp
theorem nameB_long {s : ByteArray} (h : 16 < s.size) : nameB s = false := by
 unfold nameB; rw [decide_eq_false (by omega)]; rfl
theorem nameB_nil {s : ByteArray} (h : s.size = 0) : nameB s = false := by
 unfold nameB frsB; rw [dif_neg (by omega)]; simp
theorem nameB_yes {s : ByteArray} (h0 : 0 < s.size) (h : s.size ≤ 16) (hf : letB (s[0]'h0) = true) (ha : ∀ j, (h2 : j < s.size) → namB (s[j]'h2) = true) : nameB s = true := by
 unfold nameB frsB; rw [decide_eq_true h, dif_pos h0, hf, allC_yes ha]; rfl
def basB (a : Acc) : Bool := if a.kind = 1 ∨ a.kind = 2 then decide (a.basis = 1) || decide (a.basis = 3) else if a.kind = 3 then decide (a.basis = 3) else decide (a.basis = 2)
def pbsB (a : Acc) : Bool := if a.kind = 1 ∨ a.kind = 2 then !decide (a.basis = 2) else if a.kind = 3 then decide (a.basis = 3) else decide (a.basis = 2)
theorem bas_eq {a : Acc} (h : kinB true a = true) : pbsB a = basB a := by
 unfold pbsB basB
 split
 ·have h := kinB_is h
  have e1 : loB true = 1 := rfl
  have e2 : hiB true = 3 := rfl
  rw [e1, e2] at h
  have h1 : a.basis = 1 ∨ a.basis = 2 ∨ a.basis = 3 := by omega
  rcases h1 with h1 | h1 | h1 <;> rw [h1] <;> rfl
 ·rfl
def chaB (L : List Acc) : Bool := vB L true && L.all basB
theorem vB_kin {L : List Acc} (h : vB L true = true) : ∀ a ∈ L, kinB true a = true := by
 unfold vB kindsB at h
 simp only [Bool.and_eq_true] at h
 exact List.all_eq_true.1 h.1.1.2
def rlK (i : Nat) : Int := ([1, 1, 1, 1, 3, 3, 3, 3, 3, 4, 4, 4, 5, 5, 5] : List Int).getD i 0
def rlB (i : Nat) : Int := ([3, 3, 3, 1, 3, 3, 3, 3, 3, 2, 2, 2, 2, 2, 2] : List Int).getD i 0
def rlM (i : Nat) : Bool := ([true, false, false, true, false, false, true, false, false, false, false, true, false, false, false] : List Bool).getD i false
def chkR (L : List Acc) (R : List Int) (i : Nat) : Bool := (fnd L (R.getD i 0)).isSome && (decide ((fndA L (R.getD i 0)).kind = rlK i) && decide ((fndA L (R.getD i 0)).basis = rlB i))
def dsR (R : List Int) (i : Nat) : Bool := allTo (fun k => !decide (R.getD k 0 = R.getD i 0)) i
def rlsB (L : List Acc) (R : List Int) : Bool := allTo (chkR L R) 15 && allTo (dsR R) 15
structure RI (R : List Int) (k m : Nat) (S : Int → Bool) : Prop where
 mem : ∀ x, S x = true ↔ ∃ i, i < k ∧ R.getD i 0 = x
 le : m ≤ k
 iff : m = k ↔ allTo (dsR R) k = true
theorem RI.start {R : List Int} : RI R 0 0 (fun _ => false) := ⟨fun x => by simp, Nat.le_refl _, by simp [allTo]⟩
theorem dsR_is {R : List Int} {i : Nat} : dsR R i = true ↔ ∀ k, k < i → R.getD k 0 ≠ R.getD i 0 := by
 unfold dsR
 rw [allTo_is]
 exact ⟨fun h k hk => by have := h k hk; simpa using this, fun h k hk => by have := h k hk; simpa using this⟩
theorem RI.step {R : List Int} {k m : Nat} {S : Int → Bool} {x : Int} (h : RI R k m S) (hx : R.getD k 0 = x) :
  RI R (k + 1) (if S x = true then m else m + 1) (fun a => decide (a = x) || S a) := by
 have hd : dsR R k = !S x := by
  cases hS : S x with
  | true =>
   obtain ⟨i, hi, h1⟩ := (h.mem _).1 hS
   cases hq : dsR R k with
   | false => rfl
   | true => exact absurd (by rw [hx]; exact h1) (dsR_is.1 hq i hi)
  | false =>
   show dsR R k = true
   rw [dsR_is]
   intro i hi h1
   have := (h.mem x).2 ⟨i, hi, by rw [h1, hx]⟩
   rw [hS] at this; cases this
 refine ⟨fun a => ?_, ?_, ?_⟩
 ·simp only [Bool.or_eq_true, decide_eq_true_eq, h.mem]
  constructor
  ·rintro (rfl | ⟨i, hi, h1⟩)
   ·exact ⟨k, by omega, hx⟩
   ·exact ⟨i, by omega, h1⟩
  ·rintro ⟨i, hi, h1⟩
   rcases Nat.lt_or_ge i k with h3 | h3
   ·exact .inr ⟨i, h3, h1⟩
   ·obtain rfl : i = k := by omega
    exact .inl (by rw [← h1, hx])
 ·have := h.le; split <;> omega
 ·have h1 := h.le
  have h2 := h.iff
  simp only [allTo, Bool.and_eq_true, hd]
  cases hS : S x
  ·simp only [Bool.not_false, and_true, if_neg (show ¬ (false = true) by simp)]
   rw [← h2]; omega
  ·simp only [Bool.not_true, if_true]
   constructor
   ·intro h3; omega
   ·rintro ⟨_, h3⟩; cases h3
def opnP (R : List Int) (c : Int) : Bool := decide (c = R.getD 0 0) || (decide (c = R.getD 3 0) || (decide (c = R.getD 6 0) || (decide (c = R.getD 11 0) || !decide (c ∈ R))))
def opnB (R : List Int) (c : Int) : Bool := allTo (fun k => !(decide (c = R.getD k 0) && !rlM k)) 15
theorem opn_eq {R : List Int} (hl : R.length = 15) (hd : allTo (dsR R) 15 = true) (c : Int) : opnP R c = opnB R c := by
 have hne : ∀ i j, i < j → j < 15 → R.getD i 0 ≠ R.getD j 0 := fun i j hij hj => dsR_is.1 (allTo_is.1 hd j hj) i hij
 have hne2 : ∀ i j, i < 15 → j < 15 → R.getD i 0 = R.getD j 0 → i = j := fun i j hi hj e => by
  rcases Nat.lt_trichotomy i j with h | h | h
  ·exact absurd e (hne i j h hj)
  ·exact h
  ·exact absurd e.symm (hne j i h hi)
 have hM : ∀ k, k < 15 → ((!rlM k) = false ↔ k = 0 ∨ k = 3 ∨ k = 6 ∨ k = 11) := by
  intro k hk
  match k, hk with
  | 0, _ | 1, _ | 2, _ | 3, _ | 4, _ | 5, _ | 6, _ | 7, _ | 8, _ | 9, _ | 10, _ | 11, _ | 12, _ | 13, _ | 14, _ => decide
 have hmem : c ∈ R ↔ ∃ k, k < 15 ∧ c = R.getD k 0 := by
  constructor
  ·intro h
   obtain ⟨i, hi, e⟩ := mem_getD_acc (d := (0 : Int)) h
   exact ⟨i, by omega, e.symm⟩
  ·rintro ⟨k, hk, e⟩
   rw [e]; exact getD_mem_acc (by omega)
 rw [Bool.eq_iff_iff]
 unfold opnP opnB
 rw [allTo_is]
 simp only [Bool.or_eq_true, decide_eq_true_eq, Bool.not_eq_true', decide_eq_false_iff_not, Bool.and_eq_false_iff]
 constructor
 ·intro h k hk
  by_cases hc : c = R.getD k 0
  ·refine .inr ((hM k hk).2 ?_)
   rcases h with h | h | h | h | h
   ·exact .inl (hne2 k 0 hk (by omega) (hc.symm.trans h))
   ·exact .inr (.inl (hne2 k 3 hk (by omega) (hc.symm.trans h)))
   ·exact .inr (.inr (.inl (hne2 k 6 hk (by omega) (hc.symm.trans h))))
   ·exact .inr (.inr (.inr (hne2 k 11 hk (by omega) (hc.symm.trans h))))
   ·exact absurd (hmem.2 ⟨k, hk, hc⟩) h
  ·exact .inl hc
 ·intro h
  by_cases hm : c ∈ R
  ·obtain ⟨k, hk, e⟩ := hmem.1 hm
   rcases h k hk with h1 | h1
   ·exact absurd e h1
   ·rcases (hM k hk).1 h1 with rfl | rfl | rfl | rfl
    ·exact .inl e
    ·exact .inr (.inl e)
    ·exact .inr (.inr (.inl e))
    ·exact .inr (.inr (.inr (.inl e)))
  ·exact .inr (.inr (.inr (.inr hm)))
structure Grp where
 cur : ByteArray
 cy : Int
 cm : Int
 cp : Int
 A : Option Addr
 n : Nat
 c : Nat
 r0 : Int
 r1 : Int
 r2 : Int
 r3 : Int
 r4 : Int
 r5 : Int
 r6 : Int
 r7 : Int
 r8 : Int
 r9 : Int
 r10 : Int
 r11 : Int
 r12 : Int
 r13 : Int
 r14 : Int
 E : Option Addr
 m : Nat
 d : Nat
abbrev grpV (g : Grp) : Value := .agg #[.string g.cur, .int .i64 g.cy, .int .i64 g.cm, .int .i64 g.cp, .slice g.A g.n g.c, .int .i64 g.r0, .int .i64 g.r1, .int .i64 g.r2, .int .i64 g.r3, .int .i64 g.r4, .int .i64 g.r5, .int .i64 g.r6, .int .i64 g.r7, .int .i64 g.r8, .int .i64 g.r9, .int .i64 g.r10, .int .i64 g.r11, .int .i64 g.r12, .int .i64 g.r13, .int .i64 g.r14, .slice g.E g.m g.d]
abbrev rolV (g : Grp) : Value := .agg #[.int .i64 g.r0, .int .i64 g.r1, .int .i64 g.r2, .int .i64 g.r3, .int .i64 g.r4, .int .i64 g.r5, .int .i64 g.r6, .int .i64 g.r7, .int .i64 g.r8, .int .i64 g.r9, .int .i64 g.r10, .int .i64 g.r11, .int .i64 g.r12, .int .i64 g.r13, .int .i64 g.r14]
def Grp.R (g : Grp) : List Int := [g.r0, g.r1, g.r2, g.r3, g.r4, g.r5, g.r6, g.r7, g.r8, g.r9, g.r10, g.r11, g.r12, g.r13, g.r14]
theorem R_len (g : Grp) : g.R.length = 15 := rfl
structure GB (w : World) (b : Nat) (g : Grp) : Prop where
 c0 : w.cell? ⟨b, 0, none⟩ = some (.string g.cur)
 c1 : w.cell? ⟨b, 1, none⟩ = some (.int .i64 g.cy)
 c2 : w.cell? ⟨b, 2, none⟩ = some (.int .i64 g.cm)
 c3 : w.cell? ⟨b, 3, none⟩ = some (.int .i64 g.cp)
 c4 : w.cell? ⟨b, 4, none⟩ = some (.slice g.A g.n g.c)
 c5 : w.cell? ⟨b, 5, none⟩ = some (.int .i64 g.r0)
 c6 : w.cell? ⟨b, 6, none⟩ = some (.int .i64 g.r1)
 c7 : w.cell? ⟨b, 7, none⟩ = some (.int .i64 g.r2)
 c8 : w.cell? ⟨b, 8, none⟩ = some (.int .i64 g.r3)
 c9 : w.cell? ⟨b, 9, none⟩ = some (.int .i64 g.r4)
 c10 : w.cell? ⟨b, 10, none⟩ = some (.int .i64 g.r5)
 c11 : w.cell? ⟨b, 11, none⟩ = some (.int .i64 g.r6)
 c12 : w.cell? ⟨b, 12, none⟩ = some (.int .i64 g.r7)
 c13 : w.cell? ⟨b, 13, none⟩ = some (.int .i64 g.r8)
 c14 : w.cell? ⟨b, 14, none⟩ = some (.int .i64 g.r9)
 c15 : w.cell? ⟨b, 15, none⟩ = some (.int .i64 g.r10)
 c16 : w.cell? ⟨b, 16, none⟩ = some (.int .i64 g.r11)
 c17 : w.cell? ⟨b, 17, none⟩ = some (.int .i64 g.r12)
 c18 : w.cell? ⟨b, 18, none⟩ = some (.int .i64 g.r13)
 c19 : w.cell? ⟨b, 19, none⟩ = some (.int .i64 g.r14)
 c20 : w.cell? ⟨b, 20, none⟩ = some (.slice g.E g.m g.d)
 lt : b < w.heap.size
section
variable {w w' : World} {b : Nat} {g : Grp} {e : Ent}
theorem GB.up (h : GB w b g) (hb : Below w.heap.size w w') : GB w' b g :=
 ⟨(hb.cell (p := ⟨b, 0, none⟩) h.lt).trans h.c0, (hb.cell (p := ⟨b, 1, none⟩) h.lt).trans h.c1, (hb.cell (p := ⟨b, 2, none⟩) h.lt).trans h.c2, (hb.cell (p := ⟨b, 3, none⟩) h.lt).trans h.c3, (hb.cell (p := ⟨b, 4, none⟩) h.lt).trans h.c4, (hb.cell (p := ⟨b, 5, none⟩) h.lt).trans h.c5, (hb.cell (p := ⟨b, 6, none⟩) h.lt).trans h.c6, (hb.cell (p := ⟨b, 7, none⟩) h.lt).trans h.c7, (hb.cell (p := ⟨b, 8, none⟩) h.lt).trans h.c8, (hb.cell (p := ⟨b, 9, none⟩) h.lt).trans h.c9, (hb.cell (p := ⟨b, 10, none⟩) h.lt).trans h.c10, (hb.cell (p := ⟨b, 11, none⟩) h.lt).trans h.c11, (hb.cell (p := ⟨b, 12, none⟩) h.lt).trans h.c12, (hb.cell (p := ⟨b, 13, none⟩) h.lt).trans h.c13, (hb.cell (p := ⟨b, 14, none⟩) h.lt).trans h.c14, (hb.cell (p := ⟨b, 15, none⟩) h.lt).trans h.c15, (hb.cell (p := ⟨b, 16, none⟩) h.lt).trans h.c16, (hb.cell (p := ⟨b, 17, none⟩) h.lt).trans h.c17, (hb.cell (p := ⟨b, 18, none⟩) h.lt).trans h.c18, (hb.cell (p := ⟨b, 19, none⟩) h.lt).trans h.c19, (hb.cell (p := ⟨b, 20, none⟩) h.lt).trans h.c20, Nat.lt_of_lt_of_le h.lt hb.size⟩
theorem GB.blk (h : GB w b g) (hk : w'.heap[b]? = w.heap[b]?) : GB w' b g := by
 have e : ∀ i, w'.cell? ⟨b, i, none⟩ = w.cell? ⟨b, i, none⟩ := fun i => by simp only [World.cell?, hk]
 refine ⟨(e 0).trans h.c0, (e 1).trans h.c1, (e 2).trans h.c2, (e 3).trans h.c3, (e 4).trans h.c4, (e 5).trans h.c5, (e 6).trans h.c6, (e 7).trans h.c7, (e 8).trans h.c8, (e 9).trans h.c9, (e 10).trans h.c10, (e 11).trans h.c11, (e 12).trans h.c12, (e 13).trans h.c13, (e 14).trans h.c14, (e 15).trans h.c15, (e 16).trans h.c16, (e 17).trans h.c17, (e 18).trans h.c18, (e 19).trans h.c19, (e 20).trans h.c20, ?_⟩
 have h1 := h.lt
 rcases Nat.lt_or_ge b w'.heap.size with h2 | h2
 ·exact h2
 ·rw [Array.getElem?_eq_none h2, Array.getElem?_eq_getElem h1] at hk; cases hk
theorem gb_new (w : World) (t : TypeId) (g : Grp) : GB (w.alloc (.cells #[.string g.cur, .int .i64 g.cy, .int .i64 g.cm, .int .i64 g.cp, .slice g.A g.n g.c, .int .i64 g.r0, .int .i64 g.r1, .int .i64 g.r2, .int .i64 g.r3, .int .i64 g.r4, .int .i64 g.r5, .int .i64 g.r6, .int .i64 g.r7, .int .i64 g.r8, .int .i64 g.r9, .int .i64 g.r10, .int .i64 g.r11, .int .i64 g.r12, .int .i64 g.r13, .int .i64 g.r14, .slice g.E g.m g.d] t)) w.heap.size g := by
 constructor
 case lt => simp
 all_goals (simp only [World.cell?]; rw [heap_alloc_new]; rfl)
abbrev eV (e : Ent) : Value := .agg #[.string e.nm, .string e.cur, .slice e.A e.n e.c, .slice e.B e.m e.d, .bool e.jt]
structure GrK (w : World) (g : Grp) (L : List Acc) (G : List Ent) : Prop where
 ln : L.length = g.n
 lg : G.length = g.m
 hz : AccAt w g.A L
 he : EntsAt w g.E G
 hk : EntsK w G
theorem GrK.up {L : List Acc} {G : List Ent} (h : GrK w g L G) (hb : Below w.heap.size w w') : GrK w' g L G := ⟨h.ln, h.lg, h.hz.up hb, h.he.up hb, h.hk.up hb⟩
end
structure GrW (g : Grp) (L : List Acc) (G : List Ent) : Prop where
 cur : g.cur.size ≤ maxLen
 rol : ∀ x ∈ g.R, (Lit.int .i64 x).wf = true
 txt : ∀ e ∈ G, e.nm.size ≤ maxLen ∧ e.cur.size ≤ maxLen
structure Sm (g : Grp) (G : List Ent) : Prop where
 n : g.n ≤ 60
 m : g.m ≤ 14
 e : ∀ e ∈ G, e.n ≤ 60 ∧ e.m ≤ 60
theorem ent_at {w : World} {X : Option Addr} {G : List Ent} (h : EntsAt w X G) {k : Nat} (hk : k < G.length) : ∃ b off, X = some ⟨b, off, none⟩ ∧ b < w.heap.size ∧ E5 w b (off + k * 5) (G.getD k ent0) := by
 obtain ⟨b, off, e, hlt, hc⟩ := h (by omega)
 exact ⟨b, off, e, hlt, hc k hk⟩
def dsN (G : List Ent) (i : Nat) : Bool := allTo (fun k => !decide ((G.getD k ent0).nm = (G.getD i ent0).nm)) i
def fix (G : List Ent) (nm : ByteArray) : Nat := G.findIdx fun e => decide (e.nm = nm)
theorem fix_at {G : List Ent} {nm : ByteArray} {k : Nat} (hk : k < G.length) (h0 : ∀ j, j < k → (G.getD j ent0).nm ≠ nm) (h : (G.getD k ent0).nm = nm) : fix G nm = k := by
 unfold fix
 rw [List.findIdx_eq hk]
 refine ⟨?_, fun j hj => ?_⟩
 ·rw [List.getD_eq_getElem?_getD, List.getElem?_eq_getElem hk] at h
  simpa using h
 ·have := h0 j hj
  rw [List.getD_eq_getElem?_getD, List.getElem?_eq_getElem (by omega)] at this
  simpa using this
theorem fix_no {G : List Ent} {nm : ByteArray} (h0 : ∀ j, j < G.length → (G.getD j ent0).nm ≠ nm) : fix G nm = G.length := by
 unfold fix
 rw [List.findIdx_eq_length]
 intro e he
 obtain ⟨i, hi, rfl⟩ := mem_getD_acc (d := ent0) he
 simpa using h0 i hi
theorem dsN_is {G : List Ent} {i : Nat} : dsN G i = true ↔ ∀ k, k < i → (G.getD k ent0).nm ≠ (G.getD i ent0).nm := by
 unfold dsN
 rw [allTo_is]
 exact ⟨fun h k hk => by have := h k hk; simpa using this, fun h k hk => by have := h k hk; simpa using this⟩
theorem fix_ds {G : List Ent} {i : Nat} (hi : i < G.length) : fix G (G.getD i ent0).nm = i ↔ dsN G i = true := by
 rw [dsN_is]
 constructor
 ·intro h k hk e
  have h2 : k < G.findIdx fun e => decide (e.nm = (G.getD i ent0).nm) := by show k < fix G _; omega
  have h3 := List.not_of_lt_findIdx h2
  rw [List.getD_eq_getElem?_getD, List.getElem?_eq_getElem (by omega)] at e
  simp only [Option.getD_some] at e
  simp [e] at h3
 ·intro h
  exact fix_at hi h rfl
theorem gb_range {w : World} {b : Nat} {g : Grp} (h : GB w b g) : w.rangeAt b 0 [.string g.cur, .int .i64 g.cy, .int .i64 g.cm, .int .i64 g.cp, .slice g.A g.n g.c, .int .i64 g.r0, .int .i64 g.r1, .int .i64 g.r2, .int .i64 g.r3, .int .i64 g.r4, .int .i64 g.r5, .int .i64 g.r6, .int .i64 g.r7, .int .i64 g.r8, .int .i64 g.r9, .int .i64 g.r10, .int .i64 g.r11, .int .i64 g.r12, .int .i64 g.r13, .int .i64 g.r14, .slice g.E g.m g.d] := by
 intro j v hv
 rw [Nat.zero_add]
 match j, hv with
 | 0, hv => injection hv with hv; rw [← hv]; exact h.c0
 | 1, hv => injection hv with hv; rw [← hv]; exact h.c1
 | 2, hv => injection hv with hv; rw [← hv]; exact h.c2
 | 3, hv => injection hv with hv; rw [← hv]; exact h.c3
 | 4, hv => injection hv with hv; rw [← hv]; exact h.c4
 | 5, hv => injection hv with hv; rw [← hv]; exact h.c5
 | 6, hv => injection hv with hv; rw [← hv]; exact h.c6
 | 7, hv => injection hv with hv; rw [← hv]; exact h.c7
 | 8, hv => injection hv with hv; rw [← hv]; exact h.c8
 | 9, hv => injection hv with hv; rw [← hv]; exact h.c9
 | 10, hv => injection hv with hv; rw [← hv]; exact h.c10
 | 11, hv => injection hv with hv; rw [← hv]; exact h.c11
 | 12, hv => injection hv with hv; rw [← hv]; exact h.c12
 | 13, hv => injection hv with hv; rw [← hv]; exact h.c13
 | 14, hv => injection hv with hv; rw [← hv]; exact h.c14
 | 15, hv => injection hv with hv; rw [← hv]; exact h.c15
 | 16, hv => injection hv with hv; rw [← hv]; exact h.c16
 | 17, hv => injection hv with hv; rw [← hv]; exact h.c17
 | 18, hv => injection hv with hv; rw [← hv]; exact h.c18
 | 19, hv => injection hv with hv; rw [← hv]; exact h.c19
 | 20, hv => injection hv with hv; rw [← hv]; exact h.c20
 | j + 21, hv => simp at hv
theorem gb_load {w : World} {b : Nat} {g : Grp} (h : GB w b g) : (Instr.loadAt 29 (.pointer (some ⟨b, 0, none⟩))).run Tryz.prog w = .ok (grpV g) w :=
 run_loadAt_mid w b 0 29 _ _ (gb_range h) Tryz.underlying29 rfl (by kernel_rfl)
theorem gb_roles {w : World} {b : Nat} {g : Grp} (h : GB w b g) : (Instr.loadAt 26 (.pointer (some ⟨b, 5, none⟩))).run Tryz.prog w = .ok (rolV g) w :=
 run_loadAt_mid w b 5 26 [.int .i64 g.r0, .int .i64 g.r1, .int .i64 g.r2, .int .i64 g.r3, .int .i64 g.r4, .int .i64 g.r5, .int .i64 g.r6, .int .i64 g.r7, .int .i64 g.r8, .int .i64 g.r9, .int .i64 g.r10, .int .i64 g.r11, .int .i64 g.r12, .int .i64 g.r13, .int .i64 g.r14] _ (fun j v hv => by
  have hj : j < 15 := by
   rcases Nat.lt_or_ge j 15 with hj | hj
   ·exact hj
   ·rw [List.getElem?_eq_none (by simpa using hj)] at hv; cases hv
  have h1 := gb_range h (5 + j) v (by
   have e : ([.string g.cur, .int .i64 g.cy, .int .i64 g.cm, .int .i64 g.cp, .slice g.A g.n g.c, .int .i64 g.r0, .int .i64 g.r1, .int .i64 g.r2, .int .i64 g.r3, .int .i64 g.r4, .int .i64 g.r5, .int .i64 g.r6, .int .i64 g.r7, .int .i64 g.r8, .int .i64 g.r9, .int .i64 g.r10, .int .i64 g.r11, .int .i64 g.r12, .int .i64 g.r13, .int .i64 g.r14, .slice g.E g.m g.d] : List Value)[5 + j]? = ([.int .i64 g.r0, .int .i64 g.r1, .int .i64 g.r2, .int .i64 g.r3, .int .i64 g.r4, .int .i64 g.r5, .int .i64 g.r6, .int .i64 g.r7, .int .i64 g.r8, .int .i64 g.r9, .int .i64 g.r10, .int .i64 g.r11, .int .i64 g.r12, .int .i64 g.r13, .int .i64 g.r14] : List Value)[j]? := by
    match j, hj with
    | 0, _ | 1, _ | 2, _ | 3, _ | 4, _ | 5, _ | 6, _ | 7, _ | 8, _ | 9, _ | 10, _ | 11, _ | 12, _ | 13, _ | 14, _ => rfl
   rw [e]; exact hv)
  rw [Nat.zero_add] at h1
  exact h1) Tryz.underlying26 rfl (by kernel_rfl)
theorem wpList_load_is {P : Program} {w : World} {ops : Array Oper} {rest : List Oper} {o : Oper} {a : Act} {Q : Exit → Act → World → Prop} (hg : o.guard = none) (ty : TypeId) (x : Operand) (hop : o.op = .load ty x) (p : Value) (hx : a.eval x = p) (V : Value)
  (hl : (Instr.loadAt ty p).run P w = .ok V w) (h : wpList P ops Q rest (a.put o.dst V) w) : wpList P ops Q (o :: rest) a w := by
 refine wpList_plain hg fun K hK => ?_
 unfold Oper.wp execOp
 simp only [hop, hx, Sem.run_bind, hl, Sem.run_pure, Result.andThen_ok]
 exact hK _ _ h
theorem gb_lV {w : World} {b : Nat} {g : Grp} {V : Value} (h : GB w b g) (hV : V = grpV g) : (Instr.loadAt 29 (.pointer (some ⟨b, 0, none⟩))).run Tryz.prog w = .ok V w := hV ▸ gb_load h
theorem wpList_load_if {P : Program} {w : World} {ops : Array Oper} {rest : List Oper} {o : Oper} {a : Act} {Q : Exit → Act → World → Prop} (hw : Region.wanted o (yielded ops a.tmps) = true) (ty : TypeId) (x : Operand) (hop : o.op = .load ty x) (p : Value) (hx : a.eval x = p) (V : Value)
  (hl : (Instr.loadAt ty p).run P w = .ok V w) (h : wpList P ops Q rest (a.put o.dst V) w) : wpList P ops Q (o :: rest) a w := by
 refine wpList_step fun K hK => ?_
 rw [hw, if_pos rfl]
 unfold Oper.wp execOp
 simp only [hop, hx, Sem.run_bind, hl, Sem.run_pure, Result.andThen_ok]
 exact hK _ _ h
open Go.RowKit
abbrev wr (x : Int) : Int := wrap64 x
theorem wr_emod (x : Int) : (wr x) % 18446744073709551616 = x % 18446744073709551616 := by
 unfold Go.Proofs.YthokdplikidhiaaGreat.wr wrap64
 omega
theorem wr_eq_of {x y : Int} (h : x % 18446744073709551616 = y % 18446744073709551616) : wr x = wr y := by
 show Go.Proofs.YthokdplikidhiaaGreat.wr x = Go.Proofs.YthokdplikidhiaaGreat.wr y
 unfold Go.Proofs.YthokdplikidhiaaGreat.wr wrap64
 omega
theorem wr_add (x y : Int) : wr (wr x + y) = wr (x + y) := wr_eq_of (by have := wr_emod x; omega)
theorem wr_small {x : Int} (h1 : -9223372036854775808 ≤ x) (h2 : x ≤ 9223372036854775807) : wr x = x := by
 unfold Go.Proofs.YthokdplikidhiaaGreat.wr wrap64
 omega
theorem wr_zero : wr 0 = 0 := wr_small (by omega) (by omega)
def kOf (l : Lnk) : Int × Int := (l.frm, l.since)
def sumT (L : List Lnk) : Int := (L.map (·.tgt)).sum
def ltK (a b : Int × Int) : Prop := a.1 < b.1 ∨ a.1 = b.1 ∧ a.2 < b.2
instance (a b : Int × Int) : Decidable (ltK a b) := by unfold ltK; infer_instance
theorem infoLn : (Tryz.prog.info? 59).map (fun i => (i.zero, i.size, i.bytes)) = some (some (.agg #[.int .i64 0, .int .i64 0, .int .i64 0]), 3, 24) := by kernel_rfl
structure Ety where
 id : Int
 ent : Int
 day : Int
 kind : Int
 of_ : Int
 txt : ByteArray
 A : Option Addr
 n : Nat
 c : Nat
def grpC (g : Grp) : List Value := [.string g.cur, .int .i64 g.cy, .int .i64 g.cm, .int .i64 g.cp, .slice g.A g.n g.c, .int .i64 g.r0, .int .i64 g.r1, .int .i64 g.r2, .int .i64 g.r3, .int .i64 g.r4, .int .i64 g.r5, .int .i64 g.r6, .int .i64 g.r7, .int .i64 g.r8, .int .i64 g.r9, .int .i64 g.r10, .int .i64 g.r11, .int .i64 g.r12, .int .i64 g.r13, .int .i64 g.r14, .slice g.E g.m g.d]
def etyC (x : Ety) : List Value := [.int .i64 x.id, .int .i64 x.ent, .int .i64 x.day, .int .i64 x.kind, .int .i64 x.of_, .string x.txt, .slice x.A x.n x.c]
abbrev etyV (x : Ety) : Value := .agg #[.int .i64 x.id, .int .i64 x.ent, .int .i64 x.day, .int .i64 x.kind, .int .i64 x.of_, .string x.txt, .slice x.A x.n x.c]
def cdC (g : Grp) (x : Ety) : List Value := grpC g ++ etyC x
def cdV (g : Grp) (x : Ety) : Value := .agg (cdC g x).toArray
theorem grpV_is (g : Grp) : grpV g = .agg (grpC g).toArray := rfl
theorem etyV_is (x : Ety) : etyV x = .agg (etyC x).toArray := rfl
structure Rg (w : World) (b : Nat) (cs : List Value) : Prop where
 cell : ∀ j v, cs[j]? = some v → w.cell? ⟨b, j, none⟩ = some v
 lt : b < w.heap.size
theorem Rg.up {w w' : World} {b : Nat} {cs : List Value} (h : Rg w b cs) (hb : Below w.heap.size w w') : Rg w' b cs :=
 ⟨fun j v hj => (hb.cell (p := ⟨b, j, none⟩) h.lt).trans (h.cell j v hj), Nat.lt_of_lt_of_le h.lt hb.size⟩
theorem rg_new (w : World) (t : TypeId) (cs : List Value) : Rg (w.alloc (.cells cs.toArray t)) w.heap.size cs := by
 refine ⟨fun j v hj => ?_, by simp⟩
 simp only [World.cell?]
 rw [heap_alloc_new]
 simpa using hj
theorem Rg.load {P : Program} {w : World} {b : Nat} {cs : List Value} (h : Rg w b cs) (off : Nat) (ty : TypeId) (sub : List Value) (hs : sub = (cs.drop off).take sub.length) (d : TypeDesc) (hu : P.underlying ty = some d) (hd : d.isRow = true) (hi : (P.info? ty).map (·.size) = some sub.length) :
  (Instr.loadAt ty (.pointer (some ⟨b, off, none⟩))).run P w = .ok (.agg sub.toArray) w :=
 run_loadAt_mid w b off ty sub d (fun j v hj => h.cell _ _ (by
  rw [hs, List.getElem?_take] at hj
  split at hj
  ·rwa [List.getElem?_drop] at hj
  ·cases hj)) hu hd hi
theorem wpList_box_rg {P : Program} {w : World} {ops : Array Oper} {rest : List Oper} {o : Oper} {a : Act} {Q : Exit → Act → World → Prop} (hg : o.guard = none) (ty : TypeId) (x : Operand) (hop : o.op = .box ty x) (V : Value) (hx : a.eval x = V) (cs : List Value) (hV : V = .agg cs.toArray)
  (h : ∀ b W, Hid (Rg W b cs) → Hid (Below w.heap.size w W) → wpList P ops Q rest (a.put o.dst (.pointer (some ⟨b, 0, none⟩))) W) : wpList P ops Q (o :: rest) a w := by
 refine wpList_plain hg fun K hK => ?_
 have hrun : (Instr.box ty V).run P w = .ok (.pointer (some ⟨w.heap.size, 0, none⟩)) (w.alloc (.cells cs.toArray ty)) := by
  rw [hV]
  simp [Instr.box, newVar, newRow, Value.cells]
 unfold Oper.wp execOp
 simp only [hop, hx, Sem.run_bind, hrun, Sem.run_pure, Result.andThen_ok]
 exact hK _ _ (h _ _ (Lib.hid (rg_new w ty cs)) (Lib.hid (below_alloc_new _)))
theorem wpList_build_is {P : Program} {w : World} {ops : Array Oper} {rest : List Oper} {o : Oper} {a : Act} {Q : Exit → Act → World → Prop} (hg : o.guard = none) (ty : TypeId) (ps : Array (Nat × Operand)) (hop : o.op = .build ty ps) (L : List (Nat × Value)) (hL : (ps.toList.map fun p => (p.1, a.eval p.2)) = L) (V : Value)
  (hl : (Instr.build ty L.toArray).run P w = .ok V w) (h : wpList P ops Q rest (a.put o.dst V) w) : wpList P ops Q (o :: rest) a w := by
 refine wpList_plain hg fun K hK => ?_
 have he : (ps.map fun p => (p.1, a.eval p.2)) = L.toArray := by rw [← hL]; exact Array.ext' (by rw [Array.toList_map])
 have hl2 : (Instr.build ty (ps.map fun x => match x with | (i, x) => (i, a.eval x))).run P w = .ok V w := by
  rw [← he] at hl; exact hl
 unfold Oper.wp execOp
 simp only [hop, Sem.run_bind, hl2, Sem.run_pure, Result.andThen_ok]
 exact hK _ _ h
theorem ghasb_any (a : Acc) (w : World) : Calls Tryz.prog 132 #[accV a] w fun e w' => e = .returned (.bool (pbsB a)) ∧ Below w.heap.size w w' := by
 have hB := below_alloc_new (w := w) (.cells #[.int .i64 a.code, .int .i64 a.kind, .int .i64 a.basis, .int .i64 a.par] 118)
 obtain ⟨⟨c0, c1, c2, c3⟩, lt, -⟩ := ab_new w 118 a
 simp only [Nat.zero_add] at c1 c2 c3
 have e2 : (a.basis == 2) = decide (a.basis = 2) := rfl
 have e3 : (a.basis == 3) = decide (a.basis = 3) := rfl
 have e1 : (a.basis == 1) = decide (a.basis = 1) := rfl
 have f2 : (a.basis != 2) = !decide (a.basis = 2) := rfl
 unfold pbsB
 generalize decide (a.basis = 1) = q1 at *
 generalize decide (a.basis = 2) = q2 at *
 generalize decide (a.basis = 3) = q3 at *
 by_cases k1 : a.kind = 1
 ·have g1 : (a.kind == 1) = true := by simp [k1]
  rw [if_pos (.inl k1)]
  clear k1
  go_enter Tryz.func132, Tryz.ntmps132
  go_wp2_with fail
  go_ret
  exact ⟨rfl, hB⟩
 have g1 : (a.kind == 1) = false := by simp [k1]
 by_cases k2 : a.kind = 2
 ·have g2 : (a.kind == 2) = true := by simp [k2]
  rw [if_pos (.inr k2)]
  clear k1 k2
  go_enter Tryz.func132, Tryz.ntmps132
  go_wp2_with fail
  go_ret
  exact ⟨rfl, hB⟩
 have g2 : (a.kind == 2) = false := by simp [k2]
 rw [if_neg (by omega)]
 clear k1 k2
 by_cases k3 : a.kind = 3
 ·have g3 : (a.kind == 3) = true := by simp [k3]
  rw [if_pos k3]
  clear k3
  go_enter Tryz.func132, Tryz.ntmps132
  go_wp2_with fail
  go_ret
  exact ⟨rfl, hB⟩
 ·have g3 : (a.kind == 3) = false := by simp [k3]
  rw [if_neg k3]
  clear k3
  go_enter Tryz.func132, Tryz.ntmps132
  go_wp2_with fail
  go_ret
  exact ⟨rfl, hB⟩
theorem rbas_any (a : Acc) (w : World) : Calls Tryz.prog 115 #[accV a] w fun e w' => e = .returned (.bool (basB a)) ∧ Below w.heap.size w w' := by
 have hB := below_alloc_new (w := w) (.cells #[.int .i64 a.code, .int .i64 a.kind, .int .i64 a.basis, .int .i64 a.par] 118)
 obtain ⟨⟨c0, c1, c2, c3⟩, lt, -⟩ := ab_new w 118 a
 simp only [Nat.zero_add] at c1 c2 c3
 have e2 : (a.basis == 2) = decide (a.basis = 2) := rfl
 have e3 : (a.basis == 3) = decide (a.basis = 3) := rfl
 have e1 : (a.basis == 1) = decide (a.basis = 1) := rfl
 have f2 : (a.basis != 2) = !decide (a.basis = 2) := rfl
 unfold basB
 generalize decide (a.basis = 1) = q1 at *
 generalize decide (a.basis = 2) = q2 at *
 generalize decide (a.basis = 3) = q3 at *
 by_cases k1 : a.kind = 1
 ·have g1 : (a.kind == 1) = true := by simp [k1]
  rw [if_pos (.inl k1)]
  clear k1
  cases q1
  ·go_enter Tryz.func115, Tryz.ntmps115
   go_wp2_with fail
   go_ret
   exact ⟨rfl, hB⟩
  ·go_enter Tryz.func115, Tryz.ntmps115
   go_wp2_with fail
   go_ret
   exact ⟨rfl, hB⟩
 have g1 : (a.kind == 1) = false := by simp [k1]
 by_cases k2 : a.kind = 2
 ·have g2 : (a.kind == 2) = true := by simp [k2]
  rw [if_pos (.inr k2)]
  clear k1 k2
  cases q1
  ·go_enter Tryz.func115, Tryz.ntmps115
   go_wp2_with fail
   go_ret
   exact ⟨rfl, hB⟩
  ·go_enter Tryz.func115, Tryz.ntmps115
   go_wp2_with fail
   go_ret
   exact ⟨rfl, hB⟩
 have g2 : (a.kind == 2) = false := by simp [k2]
 rw [if_neg (by omega)]
 clear k1 k2
 by_cases k3 : a.kind = 3
 ·have g3 : (a.kind == 3) = true := by simp [k3]
  rw [if_pos k3]
  clear k3
  go_enter Tryz.func115, Tryz.ntmps115
  go_wp2_with fail
  go_ret
  exact ⟨rfl, hB⟩
 ·have g3 : (a.kind == 3) = false := by simp [k3]
  rw [if_neg k3]
  clear k3
  go_enter Tryz.func115, Tryz.ntmps115
  go_wp2_with fail
  go_ret
  exact ⟨rfl, hB⟩
theorem chaB_no {L : List Acc} {k : Nat} (hk : k < L.length) (h : basB (L.getD k acc0) = false) : chaB L = false := by
 unfold chaB
 rw [show L.all basB = false from List.all_eq_false.2 ⟨_, getD_mem_acc hk, by rw [h]; simp⟩]; simp
theorem chaB_end {L : List Acc} (hv : vB L true = true) (h : allTo (fun i => basB (L.getD i acc0)) L.length = true) : chaB L = true := by
 unfold chaB
 rw [hv, show L.all basB = true from all_getD.2 (allTo_is.1 h)]; rfl
set_option maxRecDepth 20000 in
set_option maxHeartbeats 1600000 in
theorem gcha_any (A : Option Addr) (cp : Nat) (L : List Acc) (w : World) (hz : AccAt w A L) (hl : L.length ≤ 1000) :
  Calls Tryz.prog 108 #[.slice A L.length cp] w fun e w' => e = .returned (.bool (chaB L)) ∧ Below w.heap.size w w' := by
 have hB := Below.refl w.heap.size w
 have h1 := fun w h => cvalid8_any A cp L true w h hl
 have hno := fun k => chaB_no (L := L) (k := k)
 have hend := chaB_end (L := L)
 cases hv : vB L true
 ·have E : Hid (chaB L = false) := Lib.hid (by unfold chaB; rw [hv]; rfl)
  rw [hv] at h1
  have H1 := Lib.hid h1
  have HZ := Lib.hid hz
  generalize L.length = n at *
  clear h1 hno hend hz hv
  go_enter Tryz.func108, Tryz.ntmps108
  go_wp2_with (go_at_call 131; refine (H1.out _ HZ.out).mono ?_; rintro e w1 ⟨rfl, hb⟩; replace hB := below_more hB hb; clear hb)
  go_ret
  exact ⟨by rw [E.out]; rfl, hB⟩
 have hkin := vB_kin hv
 have hpk : ∀ k, k < L.length → pbsB (L.getD k acc0) = basB (L.getD k acc0) := fun k hk => bas_eq (hkin _ (getD_mem_acc hk))
 replace hend := hend hv
 rw [hv] at h1
 obtain ⟨P, hP⟩ : ∃ P : Nat → Bool, (fun i => basB (L.getD i acc0)) = P := ⟨_, rfl⟩
 have hPk : ∀ k, basB (L.getD k acc0) = P k := fun k => by rw [← hP]
 rw [hP] at hend
 simp only [hPk] at hno hpk
 obtain ⟨n, hn⟩ : ∃ n, L.length = n := ⟨_, rfl⟩
 obtain ⟨s0, hs0⟩ : ∃ s0, w.heap.size = s0 := ⟨_, rfl⟩
 rw [hn] at hl h1 hno hend hpk ⊢
 rw [hs0] at hB ⊢
 have HN := Lib.hid hn
 have HZ := Lib.hid hz
 have H1 := Lib.hid h1
 have HNo := Lib.hid hno
 have HE := Lib.hid hend
 have HPK := Lib.hid hpk
 have HS0 := Lib.hid hs0
 clear hn hz h1 hno hend hpk hP hPk hv hkin
 go_enter Tryz.func108, Tryz.ntmps108
 go_wp2_with (go_at_call 131; refine (H1.out _ HZ.out).mono ?_; rintro e w1 ⟨rfl, hb⟩; replace hB := hB.trans (hb.mono (by rw [← HS0.out]; exact Nat.le_refl _)); clear hb)
 clear hs0
 go_loopg [10] n (fun kx s10 wr => ∃ k : Nat, s10 = .int .i64 k ∧ k ≤ n ∧ n - k ≤ kx ∧ Hid (allTo P k = true) ∧ Below s0 w wr)
 case atStart => exact ⟨0, rfl, by omega, by omega, Lib.hid rfl, hB⟩
 case round =>
  clear hB
  obtain ⟨k, rfl, hk, hkx, HA, hB⟩ := hrel
  by_cases hlt : k < n
  ·have hltz : (k : Int) < (n : Int) := by omega
   have hsz : s0 ≤ wr.heap.size := by have := hB.size; have := HS0.out; omega
   obtain ⟨b, off, rfl, hbw, hcs⟩ := HZ.out (by rw [HN.out]; omega)
   obtain ⟨c0, c1, c2, c3⟩ := (hcs k (by rw [HN.out]; exact hlt)).up hB (by have := HS0.out; omega)
   have hpk := HPK.out k hlt
   have hno := HNo.out k hlt
   obtain ⟨x, hx⟩ : ∃ x, L.getD k acc0 = x := ⟨_, rfl⟩
   rw [hx] at c0 c1 c2 c3 hpk
   have hX := ab_new wr 118 x
   have hB1 : Below s0 w (wr.alloc (.cells #[.int .i64 x.code, .int .i64 x.kind, .int .i64 x.basis, .int .i64 x.par] 118)) := hB.alloc hsz _
   obtain ⟨⟨z0, z1, z2, z3⟩, zlt, -⟩ := hX
   simp only [Nat.zero_add] at z1 z2 z3
   have hb := fun w => ghasb_any x w
   rw [hpk] at hb
   have hs2 : s0 ≤ (wr.alloc (.cells #[.int .i64 x.code, .int .i64 x.kind, .int .i64 x.basis, .int .i64 x.par] 118)).heap.size := by simp; omega
   have HS2 := Lib.hid hs2
   have HA2 := fun (h : P k = true) => Lib.hid (show allTo P (k + 1) = true by show (allTo P k && P k) = true; rw [HA.out, h]; rfl)
   generalize P k = q at *
   have HB := Lib.hid hb
   clear hx hcs hpk hb hs2 HA
   cases q
   ·have HR := Lib.hid (hno rfl)
    clear hno HA2
    go_wp2_with (go_at_call 132; refine (HB.out _).mono ?_; rintro e w2 ⟨rfl, hb⟩; have hB2 := hB1.trans (hb.mono HS2.out); clear hb)
    go_ret
    exact ⟨by rw [HR.out]; rfl, hB2⟩
   ·have HA3 := HA2 rfl
    clear hno HA2
    go_wp2_with (go_at_call 132; refine (HB.out _).mono ?_; rintro e w2 ⟨rfl, hb⟩; have hB2 := hB1.trans (hb.mono HS2.out); clear hb)
    go_roundg (n - (k + 1))
    case measure => omega
    case rel => exact ⟨k + 1, by go_num, by omega, by omega, HA3, hB2⟩
  ·obtain rfl : k = n := by omega
   have hltz : ¬ (k : Int) < (k : Int) := by omega
   have HR := Lib.hid (HE.out HA.out)
   go_wp2_with fail
   go_ret
   exact ⟨by rw [HR.out]; rfl, hB⟩
set_option maxRecDepth 20000 in
set_option maxHeartbeats 1600000 in
theorem gacct_any (g : Grp) (L : List Acc) (c : Int) (w : World) (hz : AccAt w g.A L) (ln : L.length = g.n) (hl : g.n ≤ 1000) :
  Calls Tryz.prog 134 #[grpV g, .int .i64 c] w fun e w' => e = .returned (.tuple #[accV (fndA L c), .bool (fnd L c).isSome]) ∧ Below w.heap.size w w' := by
 have hB1 := below_alloc_new (w := w) (.cells #[.string g.cur, .int .i64 g.cy, .int .i64 g.cm, .int .i64 g.cp, .slice g.A g.n g.c, .int .i64 g.r0, .int .i64 g.r1, .int .i64 g.r2, .int .i64 g.r3, .int .i64 g.r4, .int .i64 g.r5, .int .i64 g.r6, .int .i64 g.r7, .int .i64 g.r8, .int .i64 g.r9, .int .i64 g.r10, .int .i64 g.r11, .int .i64 g.r12, .int .i64 g.r13, .int .i64 g.r14, .slice g.E g.m g.d] 29)
 have hB := below_new hB1 (.cells #[.int .i64 acc0.code, .int .i64 acc0.kind, .int .i64 acc0.basis, .int .i64 acc0.par] 118)
 have hG := (gb_new w 29 g).up (below_alloc_new (.cells #[.int .i64 acc0.code, .int .i64 acc0.kind, .int .i64 acc0.basis, .int .i64 acc0.par] 118))
 have hA := ab_new (w.alloc (.cells #[.string g.cur, .int .i64 g.cy, .int .i64 g.cm, .int .i64 g.cp, .slice g.A g.n g.c, .int .i64 g.r0, .int .i64 g.r1, .int .i64 g.r2, .int .i64 g.r3, .int .i64 g.r4, .int .i64 g.r5, .int .i64 g.r6, .int .i64 g.r7, .int .i64 g.r8, .int .i64 g.r9, .int .i64 g.r10, .int .i64 g.r11, .int .i64 g.r12, .int .i64 g.r13, .int .i64 g.r14, .slice g.E g.m g.d] 29)) 118 acc0
 have e1 : (w.alloc (.cells #[.string g.cur, .int .i64 g.cy, .int .i64 g.cm, .int .i64 g.cp, .slice g.A g.n g.c, .int .i64 g.r0, .int .i64 g.r1, .int .i64 g.r2, .int .i64 g.r3, .int .i64 g.r4, .int .i64 g.r5, .int .i64 g.r6, .int .i64 g.r7, .int .i64 g.r8, .int .i64 g.r9, .int .i64 g.r10, .int .i64 g.r11, .int .i64 g.r12, .int .i64 g.r13, .int .i64 g.r14, .slice g.E g.m g.d] 29)).heap.size = w.heap.size + 1 := by simp
 rw [e1] at hA
 have hz2 := hz.up hB
 have h1 := fun w h => cfind_any g.A g.c L c w h (by omega)
 rw [ln] at h1
 generalize fndA L c = x at *
 generalize (fnd L c).isSome = q at *
 obtain ⟨s0, hs0⟩ : ∃ s0, w.heap.size = s0 := ⟨_, rfl⟩
 rw [hs0] at hB hG hA ⊢
 have HS0 := Lib.hid hs0
 have HZ := Lib.hid hz2
 have HA := Lib.hid hA
 have H1 := Lib.hid h1
 have c4 := hG.c4
 clear hz hz2 ln hl hB1 e1 hG hA h1
 have hs1 : s0 ≤ ((w.alloc (.cells #[.string g.cur, .int .i64 g.cy, .int .i64 g.cm, .int .i64 g.cp, .slice g.A g.n g.c, .int .i64 g.r0, .int .i64 g.r1, .int .i64 g.r2, .int .i64 g.r3, .int .i64 g.r4, .int .i64 g.r5, .int .i64 g.r6, .int .i64 g.r7, .int .i64 g.r8, .int .i64 g.r9, .int .i64 g.r10, .int .i64 g.r11, .int .i64 g.r12, .int .i64 g.r13, .int .i64 g.r14, .slice g.E g.m g.d] 29)).alloc (.cells #[.int .i64 acc0.code, .int .i64 acc0.kind, .int .i64 acc0.basis, .int .i64 acc0.par] 118)).heap.size := by simp; omega
 have HS1 := Lib.hid hs1
 clear hs1
 go_enter Tryz.func134, Tryz.ntmps134
 go_wp2_with (go_at_call 95; refine (H1.out _ HZ.out).mono ?_; rintro e w1 ⟨rfl, hb⟩; have hB2 := hB.trans (hb.mono HS1.out); have HA2 := HA.out.up hb; clear hb HA; obtain ⟨⟨z0, z1, z2, z3⟩, zlt, zf⟩ := HA2; have zf0 := zf 0; have zf1 := zf 1; have zf2 := zf 2; have zf3 := zf 3; simp only [Nat.zero_add] at z1 z2 z3; clear zf)
 exact bodyPost_ret (v := .tuple #[accV x, .bool q]) (by simp [results, Tryz.results134, go_sem, z0, z1, z2, z3]) rfl ⟨rfl, bset4 hB2 (by omega) _ _ _ _⟩
set_option maxRecDepth 20000 in
set_option maxHeartbeats 1600000 in
theorem racct_any (g : Grp) (L : List Acc) (c : Int) (w : World) (hz : AccAt w g.A L) (ln : L.length = g.n) (hl : g.n ≤ 1000) :
  Calls Tryz.prog 117 #[grpV g, .int .i64 c] w fun e w' => e = .returned (.tuple #[accV (fndA L c), .bool (fnd L c).isSome]) ∧ Below w.heap.size w w' := by
 have hB1 := below_alloc_new (w := w) (.cells #[.string g.cur, .int .i64 g.cy, .int .i64 g.cm, .int .i64 g.cp, .slice g.A g.n g.c, .int .i64 g.r0, .int .i64 g.r1, .int .i64 g.r2, .int .i64 g.r3, .int .i64 g.r4, .int .i64 g.r5, .int .i64 g.r6, .int .i64 g.r7, .int .i64 g.r8, .int .i64 g.r9, .int .i64 g.r10, .int .i64 g.r11, .int .i64 g.r12, .int .i64 g.r13, .int .i64 g.r14, .slice g.E g.m g.d] 29)
 have hB := below_new hB1 (.cells #[.int .i64 acc0.code, .int .i64 acc0.kind, .int .i64 acc0.basis, .int .i64 acc0.par] 118)
 have hG := (gb_new w 29 g).up (below_alloc_new (.cells #[.int .i64 acc0.code, .int .i64 acc0.kind, .int .i64 acc0.basis, .int .i64 acc0.par] 118))
 have hA := ab_new (w.alloc (.cells #[.string g.cur, .int .i64 g.cy, .int .i64 g.cm, .int .i64 g.cp, .slice g.A g.n g.c, .int .i64 g.r0, .int .i64 g.r1, .int .i64 g.r2, .int .i64 g.r3, .int .i64 g.r4, .int .i64 g.r5, .int .i64 g.r6, .int .i64 g.r7, .int .i64 g.r8, .int .i64 g.r9, .int .i64 g.r10, .int .i64 g.r11, .int .i64 g.r12, .int .i64 g.r13, .int .i64 g.r14, .slice g.E g.m g.d] 29)) 118 acc0
 have e1 : (w.alloc (.cells #[.string g.cur, .int .i64 g.cy, .int .i64 g.cm, .int .i64 g.cp, .slice g.A g.n g.c, .int .i64 g.r0, .int .i64 g.r1, .int .i64 g.r2, .int .i64 g.r3, .int .i64 g.r4, .int .i64 g.r5, .int .i64 g.r6, .int .i64 g.r7, .int .i64 g.r8, .int .i64 g.r9, .int .i64 g.r10, .int .i64 g.r11, .int .i64 g.r12, .int .i64 g.r13, .int .i64 g.r14, .slice g.E g.m g.d] 29)).heap.size = w.heap.size + 1 := by simp
 rw [e1] at hA
 have hz2 := hz.up hB
 have h1 := fun w h => rfind_any g.A g.c L c w h (by omega)
 rw [ln] at h1
 generalize fndA L c = x at *
 generalize (fnd L c).isSome = q at *
 obtain ⟨s0, hs0⟩ : ∃ s0, w.heap.size = s0 := ⟨_, rfl⟩
 rw [hs0] at hB hG hA ⊢
 have HS0 := Lib.hid hs0
 have HZ := Lib.hid hz2
 have HA := Lib.hid hA
 have H1 := Lib.hid h1
 have c4 := hG.c4
 clear hz hz2 ln hl hB1 e1 hG hA h1
 have hs1 : s0 ≤ ((w.alloc (.cells #[.string g.cur, .int .i64 g.cy, .int .i64 g.cm, .int .i64 g.cp, .slice g.A g.n g.c, .int .i64 g.r0, .int .i64 g.r1, .int .i64 g.r2, .int .i64 g.r3, .int .i64 g.r4, .int .i64 g.r5, .int .i64 g.r6, .int .i64 g.r7, .int .i64 g.r8, .int .i64 g.r9, .int .i64 g.r10, .int .i64 g.r11, .int .i64 g.r12, .int .i64 g.r13, .int .i64 g.r14, .slice g.E g.m g.d] 29)).alloc (.cells #[.int .i64 acc0.code, .int .i64 acc0.kind, .int .i64 acc0.basis, .int .i64 acc0.par] 118)).heap.size := by simp; omega
 have HS1 := Lib.hid hs1
 clear hs1
 go_enter Tryz.func117, Tryz.ntmps117
 go_wp2_with (go_at_call 72; refine (H1.out _ HZ.out).mono ?_; rintro e w1 ⟨rfl, hb⟩; have hB2 := hB.trans (hb.mono HS1.out); have HA2 := HA.out.up hb; clear hb HA; obtain ⟨⟨z0, z1, z2, z3⟩, zlt, zf⟩ := HA2; have zf0 := zf 0; have zf1 := zf 1; have zf2 := zf 2; have zf3 := zf 3; simp only [Nat.zero_add] at z1 z2 z3; clear zf)
 exact bodyPost_ret (v := .tuple #[accV x, .bool q]) (by simp [results, Tryz.results117, go_sem, z0, z1, z2, z3]) rfl ⟨rfl, bset4 hB2 (by omega) _ _ _ _⟩
def rlN (i : Nat) : ByteArray := ([⟨#[105, 110, 118, 101, 115, 116, 109, 101, 110, 116]⟩, ⟨#[103, 111, 111, 100, 119, 105, 108, 108]⟩, ⟨#[97, 115, 115, 111, 99, 105, 97, 116, 101, 115]⟩, ⟨#[105, 110, 118, 101, 110, 116, 111, 114, 121]⟩, ⟨#[114, 101, 115, 101, 114, 118, 101]⟩, ⟨#[109, 105, 110, 111, 114, 105, 116, 121]⟩, ⟨#[114, 101, 116, 97, 105, 110, 101, 100]⟩, ⟨#[97, 99, 113, 117, 105, 114, 101, 100]⟩, ⟨#[111, 119, 110, 101, 114, 115]⟩, ⟨#[100, 105, 115, 112, 111, 115, 97, 108]⟩, ⟨#[97, 115, 115, 111, 99, 105, 97, 116, 101, 80, 114, 111, 102, 105, 116]⟩, ⟨#[100, 105, 118, 105, 100, 101, 110, 100, 115]⟩, ⟨#[109, 105, 110, 111, 114, 105, 116, 121, 80, 114, 111, 102, 105, 116]⟩, ⟨#[100, 105, 102, 102, 101, 114, 101, 110, 99, 101]⟩, ⟨#[109, 97, 114, 103, 105, 110]⟩] : List ByteArray).getD i ⟨#[]⟩
abbrev rpC (g : Grp) : Array Value := #[.string ⟨#[105, 110, 118, 101, 115, 116, 109, 101, 110, 116]⟩, .int .i64 g.r0, .int .i64 1, .int .i64 3, .string ⟨#[103, 111, 111, 100, 119, 105, 108, 108]⟩, .int .i64 g.r1, .int .i64 1, .int .i64 3, .string ⟨#[97, 115, 115, 111, 99, 105, 97, 116, 101, 115]⟩, .int .i64 g.r2, .int .i64 1, .int .i64 3, .string ⟨#[105, 110, 118, 101, 110, 116, 111, 114, 121]⟩, .int .i64 g.r3, .int .i64 1, .int .i64 1, .string ⟨#[114, 101, 115, 101, 114, 118, 101]⟩, .int .i64 g.r4, .int .i64 3, .int .i64 3, .string ⟨#[109, 105, 110, 111, 114, 105, 116, 121]⟩, .int .i64 g.r5, .int .i64 3, .int .i64 3, .string ⟨#[114, 101, 116, 97, 105, 110, 101, 100]⟩, .int .i64 g.r6, .int .i64 3, .int .i64 3, .string ⟨#[97, 99, 113, 117, 105, 114, 101, 100]⟩, .int .i64 g.r7, .int .i64 3, .int .i64 3, .string ⟨#[111, 119, 110, 101, 114, 115]⟩, .int .i64 g.r8, .int .i64 3, .int .i64 3, .string ⟨#[100, 105, 115, 112, 111, 115, 97, 108]⟩, .int .i64 g.r9, .int .i64 4, .int .i64 2, .string ⟨#[97, 115, 115, 111, 99, 105, 97, 116, 101, 80, 114, 111, 102, 105, 116]⟩, .int .i64 g.r10, .int .i64 4, .int .i64 2, .string ⟨#[100, 105, 118, 105, 100, 101, 110, 100, 115]⟩, .int .i64 g.r11, .int .i64 4, .int .i64 2, .string ⟨#[109, 105, 110, 111, 114, 105, 116, 121, 80, 114, 111, 102, 105, 116]⟩, .int .i64 g.r12, .int .i64 5, .int .i64 2, .string ⟨#[100, 105, 102, 102, 101, 114, 101, 110, 99, 101]⟩, .int .i64 g.r13, .int .i64 5, .int .i64 2, .string ⟨#[109, 97, 114, 103, 105, 110]⟩, .int .i64 g.r14, .int .i64 5, .int .i64 2]
abbrev rrC (g : Grp) : Array Value := #[.string ⟨#[105, 110, 118, 101, 115, 116, 109, 101, 110, 116]⟩, .int .i64 g.r0, .int .i64 1, .int .i64 3, .bool true, .string ⟨#[103, 111, 111, 100, 119, 105, 108, 108]⟩, .int .i64 g.r1, .int .i64 1, .int .i64 3, .bool false, .string ⟨#[97, 115, 115, 111, 99, 105, 97, 116, 101, 115]⟩, .int .i64 g.r2, .int .i64 1, .int .i64 3, .bool false, .string ⟨#[105, 110, 118, 101, 110, 116, 111, 114, 121]⟩, .int .i64 g.r3, .int .i64 1, .int .i64 1, .bool true, .string ⟨#[114, 101, 115, 101, 114, 118, 101]⟩, .int .i64 g.r4, .int .i64 3, .int .i64 3, .bool false, .string ⟨#[109, 105, 110, 111, 114, 105, 116, 121]⟩, .int .i64 g.r5, .int .i64 3, .int .i64 3, .bool false, .string ⟨#[114, 101, 116, 97, 105, 110, 101, 100]⟩, .int .i64 g.r6, .int .i64 3, .int .i64 3, .bool true, .string ⟨#[97, 99, 113, 117, 105, 114, 101, 100]⟩, .int .i64 g.r7, .int .i64 3, .int .i64 3, .bool false, .string ⟨#[111, 119, 110, 101, 114, 115]⟩, .int .i64 g.r8, .int .i64 3, .int .i64 3, .bool false, .string ⟨#[100, 105, 115, 112, 111, 115, 97, 108]⟩, .int .i64 g.r9, .int .i64 4, .int .i64 2, .bool false, .string ⟨#[97, 115, 115, 111, 99, 105, 97, 116, 101, 80, 114, 111, 102, 105, 116]⟩, .int .i64 g.r10, .int .i64 4, .int .i64 2, .bool false, .string ⟨#[100, 105, 118, 105, 100, 101, 110, 100, 115]⟩, .int .i64 g.r11, .int .i64 4, .int .i64 2, .bool true, .string ⟨#[109, 105, 110, 111, 114, 105, 116, 121, 80, 114, 111, 102, 105, 116]⟩, .int .i64 g.r12, .int .i64 5, .int .i64 2, .bool false, .string ⟨#[100, 105, 102, 102, 101, 114, 101, 110, 99, 101]⟩, .int .i64 g.r13, .int .i64 5, .int .i64 2, .bool false, .string ⟨#[109, 97, 114, 103, 105, 110]⟩, .int .i64 g.r14, .int .i64 5, .int .i64 2, .bool false]
theorem rp_get (g : Grp) : ∀ i, i < 15 → (rpC g).toList.extract (i * 4) (i * 4 + 4) = [.string (rlN i), .int .i64 (g.R.getD i 0), .int .i64 (rlK i), .int .i64 (rlB i)] := by
 intro i hi
 match i, hi with
 | 0, _ | 1, _ | 2, _ | 3, _ | 4, _ | 5, _ | 6, _ | 7, _ | 8, _ | 9, _ | 10, _ | 11, _ | 12, _ | 13, _ | 14, _ => rfl
structure RB (w : World) (b : Nat) (g : Grp) : Prop where
 c0 : w.cell? ⟨b, 0, none⟩ = some (.int .i64 g.r0)
 c1 : w.cell? ⟨b, 1, none⟩ = some (.int .i64 g.r1)
 c2 : w.cell? ⟨b, 2, none⟩ = some (.int .i64 g.r2)
 c3 : w.cell? ⟨b, 3, none⟩ = some (.int .i64 g.r3)
 c4 : w.cell? ⟨b, 4, none⟩ = some (.int .i64 g.r4)
 c5 : w.cell? ⟨b, 5, none⟩ = some (.int .i64 g.r5)
 c6 : w.cell? ⟨b, 6, none⟩ = some (.int .i64 g.r6)
 c7 : w.cell? ⟨b, 7, none⟩ = some (.int .i64 g.r7)
 c8 : w.cell? ⟨b, 8, none⟩ = some (.int .i64 g.r8)
 c9 : w.cell? ⟨b, 9, none⟩ = some (.int .i64 g.r9)
 c10 : w.cell? ⟨b, 10, none⟩ = some (.int .i64 g.r10)
 c11 : w.cell? ⟨b, 11, none⟩ = some (.int .i64 g.r11)
 c12 : w.cell? ⟨b, 12, none⟩ = some (.int .i64 g.r12)
 c13 : w.cell? ⟨b, 13, none⟩ = some (.int .i64 g.r13)
 c14 : w.cell? ⟨b, 14, none⟩ = some (.int .i64 g.r14)
 lt : b < w.heap.size
theorem rb_new (w : World) (t : TypeId) (g : Grp) : RB (w.alloc (.cells #[.int .i64 g.r0, .int .i64 g.r1, .int .i64 g.r2, .int .i64 g.r3, .int .i64 g.r4, .int .i64 g.r5, .int .i64 g.r6, .int .i64 g.r7, .int .i64 g.r8, .int .i64 g.r9, .int .i64 g.r10, .int .i64 g.r11, .int .i64 g.r12, .int .i64 g.r13, .int .i64 g.r14] t)) w.heap.size g := by
 constructor
 case lt => simp
 all_goals (simp only [World.cell?]; rw [heap_alloc_new]; rfl)
theorem RB.up {w w' : World} {b : Nat} {g : Grp} (h : RB w b g) (hb : Below w.heap.size w w') : RB w' b g :=
 ⟨(hb.cell (p := ⟨b, 0, none⟩) h.lt).trans h.c0, (hb.cell (p := ⟨b, 1, none⟩) h.lt).trans h.c1, (hb.cell (p := ⟨b, 2, none⟩) h.lt).trans h.c2, (hb.cell (p := ⟨b, 3, none⟩) h.lt).trans h.c3, (hb.cell (p := ⟨b, 4, none⟩) h.lt).trans h.c4, (hb.cell (p := ⟨b, 5, none⟩) h.lt).trans h.c5, (hb.cell (p := ⟨b, 6, none⟩) h.lt).trans h.c6, (hb.cell (p := ⟨b, 7, none⟩) h.lt).trans h.c7, (hb.cell (p := ⟨b, 8, none⟩) h.lt).trans h.c8, (hb.cell (p := ⟨b, 9, none⟩) h.lt).trans h.c9, (hb.cell (p := ⟨b, 10, none⟩) h.lt).trans h.c10, (hb.cell (p := ⟨b, 11, none⟩) h.lt).trans h.c11, (hb.cell (p := ⟨b, 12, none⟩) h.lt).trans h.c12, (hb.cell (p := ⟨b, 13, none⟩) h.lt).trans h.c13, (hb.cell (p := ⟨b, 14, none⟩) h.lt).trans h.c14, Nat.lt_of_lt_of_le h.lt hb.size⟩
theorem there_new (w : World) (C : Array Value) (t : TypeId) : (w.alloc (.cells C t)).there w.heap.size 0 C.size := fun j hj => by
 rw [Nat.zero_add]
 constructor
 ·simp only [World.cell?]; rw [heap_alloc_new]; simp; exact hj
 ·simp only [World.frozen?]; rw [heap_alloc_new]; simp
theorem below_setCells {B : Nat} {w0 : World} {b : Nat} (hb : B ≤ b) : ∀ (vs : List Value) (o : Nat) {w : World}, Below B w0 w → Below B w0 (w.setCells b o vs)
 | [], _, _, h => h
 | v :: r, o, _, h => by
  rw [World.setCells]
  exact below_setCells hb r (o + 1) (Below.setCell (p := ⟨b, o, none⟩) h hb v)
theorem results_cell_mid {P : Program} {fn : Func} {p : Tmp} {ty : TypeId} (h : fn.results = #[.cell p ty]) (tmps : Array Value) (w : World) (b : Nat) (cs : List Value) (d : TypeDesc)
  (hp : tmps.getD p undef = .pointer (some ⟨b, 0, none⟩)) (hc : w.rangeAt b 0 cs) (hu : P.underlying ty = some d) (hd : d.isRow = true) (hi : (P.info? ty).map (·.size) = some cs.length) :
  (results fn tmps).run P w = .ok (.agg cs.toArray) w := by
 have hp' : tmps[p]?.getD undef = .pointer (some ⟨b, 0, none⟩) := by simpa using hp
 simp [results, h, hp', asAddr, run_loadVar_mid w b 0 ty cs d hc hu hd hi]
set_option maxRecDepth 20000 in
set_option maxHeartbeats 1600000 in
theorem rolesof_any (g : Grp) (w : World) : Calls Tryz.prog 133 #[rolV g] w fun e w' => e = .returned (.agg (rpC g)) ∧ Below w.heap.size w w' := by
 have hB1 := below_alloc_new (w := w) (.cells #[.int .i64 g.r0, .int .i64 g.r1, .int .i64 g.r2, .int .i64 g.r3, .int .i64 g.r4, .int .i64 g.r5, .int .i64 g.r6, .int .i64 g.r7, .int .i64 g.r8, .int .i64 g.r9, .int .i64 g.r10, .int .i64 g.r11, .int .i64 g.r12, .int .i64 g.r13, .int .i64 g.r14] 26)
 have hB := below_new hB1 (.cells #[.string ⟨#[]⟩, .int .i64 0, .int .i64 0, .int .i64 0, .string ⟨#[]⟩, .int .i64 0, .int .i64 0, .int .i64 0, .string ⟨#[]⟩, .int .i64 0, .int .i64 0, .int .i64 0, .string ⟨#[]⟩, .int .i64 0, .int .i64 0, .int .i64 0, .string ⟨#[]⟩, .int .i64 0, .int .i64 0, .int .i64 0, .string ⟨#[]⟩, .int .i64 0, .int .i64 0, .int .i64 0, .string ⟨#[]⟩, .int .i64 0, .int .i64 0, .int .i64 0, .string ⟨#[]⟩, .int .i64 0, .int .i64 0, .int .i64 0, .string ⟨#[]⟩, .int .i64 0, .int .i64 0, .int .i64 0, .string ⟨#[]⟩, .int .i64 0, .int .i64 0, .int .i64 0, .string ⟨#[]⟩, .int .i64 0, .int .i64 0, .int .i64 0, .string ⟨#[]⟩, .int .i64 0, .int .i64 0, .int .i64 0, .string ⟨#[]⟩, .int .i64 0, .int .i64 0, .int .i64 0, .string ⟨#[]⟩, .int .i64 0, .int .i64 0, .int .i64 0, .string ⟨#[]⟩, .int .i64 0, .int .i64 0, .int .i64 0] 164)
 have hR := (rb_new w 26 g).up (below_alloc_new (.cells #[.string ⟨#[]⟩, .int .i64 0, .int .i64 0, .int .i64 0, .string ⟨#[]⟩, .int .i64 0, .int .i64 0, .int .i64 0, .string ⟨#[]⟩, .int .i64 0, .int .i64 0, .int .i64 0, .string ⟨#[]⟩, .int .i64 0, .int .i64 0, .int .i64 0, .string ⟨#[]⟩, .int .i64 0, .int .i64 0, .int .i64 0, .string ⟨#[]⟩, .int .i64 0, .int .i64 0, .int .i64 0, .string ⟨#[]⟩, .int .i64 0, .int .i64 0, .int .i64 0, .string ⟨#[]⟩, .int .i64 0, .int .i64 0, .int .i64 0, .string ⟨#[]⟩, .int .i64 0, .int .i64 0, .int .i64 0, .string ⟨#[]⟩, .int .i64 0, .int .i64 0, .int .i64 0, .string ⟨#[]⟩, .int .i64 0, .int .i64 0, .int .i64 0, .string ⟨#[]⟩, .int .i64 0, .int .i64 0, .int .i64 0, .string ⟨#[]⟩, .int .i64 0, .int .i64 0, .int .i64 0, .string ⟨#[]⟩, .int .i64 0, .int .i64 0, .int .i64 0, .string ⟨#[]⟩, .int .i64 0, .int .i64 0, .int .i64 0] 164))
 have hT := there_new (w.alloc (.cells #[.int .i64 g.r0, .int .i64 g.r1, .int .i64 g.r2, .int .i64 g.r3, .int .i64 g.r4, .int .i64 g.r5, .int .i64 g.r6, .int .i64 g.r7, .int .i64 g.r8, .int .i64 g.r9, .int .i64 g.r10, .int .i64 g.r11, .int .i64 g.r12, .int .i64 g.r13, .int .i64 g.r14] 26)) #[.string ⟨#[]⟩, .int .i64 0, .int .i64 0, .int .i64 0, .string ⟨#[]⟩, .int .i64 0, .int .i64 0, .int .i64 0, .string ⟨#[]⟩, .int .i64 0, .int .i64 0, .int .i64 0, .string ⟨#[]⟩, .int .i64 0, .int .i64 0, .int .i64 0, .string ⟨#[]⟩, .int .i64 0, .int .i64 0, .int .i64 0, .string ⟨#[]⟩, .int .i64 0, .int .i64 0, .int .i64 0, .string ⟨#[]⟩, .int .i64 0, .int .i64 0, .int .i64 0, .string ⟨#[]⟩, .int .i64 0, .int .i64 0, .int .i64 0, .string ⟨#[]⟩, .int .i64 0, .int .i64 0, .int .i64 0, .string ⟨#[]⟩, .int .i64 0, .int .i64 0, .int .i64 0, .string ⟨#[]⟩, .int .i64 0, .int .i64 0, .int .i64 0, .string ⟨#[]⟩, .int .i64 0, .int .i64 0, .int .i64 0, .string ⟨#[]⟩, .int .i64 0, .int .i64 0, .int .i64 0, .string ⟨#[]⟩, .int .i64 0, .int .i64 0, .int .i64 0, .string ⟨#[]⟩, .int .i64 0, .int .i64 0, .int .i64 0] 164
 have e1 : (w.alloc (.cells #[.int .i64 g.r0, .int .i64 g.r1, .int .i64 g.r2, .int .i64 g.r3, .int .i64 g.r4, .int .i64 g.r5, .int .i64 g.r6, .int .i64 g.r7, .int .i64 g.r8, .int .i64 g.r9, .int .i64 g.r10, .int .i64 g.r11, .int .i64 g.r12, .int .i64 g.r13, .int .i64 g.r14] 26)).heap.size = w.heap.size + 1 := by simp
 rw [e1] at hT
 obtain ⟨s0, hs0⟩ : ∃ s0, w.heap.size = s0 := ⟨_, rfl⟩
 rw [hs0] at hB hR hT ⊢
 have hT60 : ((w.alloc (.cells #[.int .i64 g.r0, .int .i64 g.r1, .int .i64 g.r2, .int .i64 g.r3, .int .i64 g.r4, .int .i64 g.r5, .int .i64 g.r6, .int .i64 g.r7, .int .i64 g.r8, .int .i64 g.r9, .int .i64 g.r10, .int .i64 g.r11, .int .i64 g.r12, .int .i64 g.r13, .int .i64 g.r14] 26)).alloc (.cells #[.string ⟨#[]⟩, .int .i64 0, .int .i64 0, .int .i64 0, .string ⟨#[]⟩, .int .i64 0, .int .i64 0, .int .i64 0, .string ⟨#[]⟩, .int .i64 0, .int .i64 0, .int .i64 0, .string ⟨#[]⟩, .int .i64 0, .int .i64 0, .int .i64 0, .string ⟨#[]⟩, .int .i64 0, .int .i64 0, .int .i64 0, .string ⟨#[]⟩, .int .i64 0, .int .i64 0, .int .i64 0, .string ⟨#[]⟩, .int .i64 0, .int .i64 0, .int .i64 0, .string ⟨#[]⟩, .int .i64 0, .int .i64 0, .int .i64 0, .string ⟨#[]⟩, .int .i64 0, .int .i64 0, .int .i64 0, .string ⟨#[]⟩, .int .i64 0, .int .i64 0, .int .i64 0, .string ⟨#[]⟩, .int .i64 0, .int .i64 0, .int .i64 0, .string ⟨#[]⟩, .int .i64 0, .int .i64 0, .int .i64 0, .string ⟨#[]⟩, .int .i64 0, .int .i64 0, .int .i64 0, .string ⟨#[]⟩, .int .i64 0, .int .i64 0, .int .i64 0, .string ⟨#[]⟩, .int .i64 0, .int .i64 0, .int .i64 0] 164)).there (s0 + 1) 0 (rpC g).size := hT
 have HT := Lib.hid hT60
 obtain ⟨c0, c1, c2, c3, c4, c5, c6, c7, c8, c9, c10, c11, c12, c13, c14, rlt⟩ := hR
 clear hB1 e1 hT hT60
 go_enter Tryz.func133, Tryz.ntmps133
 go_wp2_with (refine wpList_store_mid rfl 164 _ _ rfl (s0 + 1) 0 (rpC g) rfl rfl HT.out (by kernel_rfl) (by kernel_rfl) ?_)
 exact bodyPost_ret (v := .agg (rpC g)) (results_cell_mid Tryz.results133 _ _ (s0 + 1) (rpC g).toList _ rfl (World.rangeAt_setCells_same _ _ _ _ HT.out) Tryz.underlying164 rfl (by kernel_rfl)) rfl ⟨rfl, below_setCells (by omega) _ _ hB⟩
def RolAt (w : World) (t : Nat) (g : Grp) : Prop := t < w.heap.size ∧ w.rangeAt t 0 (rrC g).toList
theorem RolAt.up {w w' : World} {t : Nat} {g : Grp} (h : RolAt w t g) (hb : Below w.heap.size w w') : RolAt w' t g :=
 ⟨Nat.lt_of_lt_of_le h.1 hb.size, fun j v hv => (hb.cell (p := ⟨t, 0 + j, none⟩) h.1).trans (h.2 j v hv)⟩
theorem rol_new (w : World) (t : TypeId) (g : Grp) : RolAt (w.alloc (.cells (rrC g) t)) w.heap.size g :=
 ⟨by simp, fun j v hv => by simp only [World.cell?]; rw [heap_alloc_new, Nat.zero_add]; simpa using hv⟩
theorem RolAt.row {w : World} {t : Nat} {g : Grp} (h : RolAt w t g) {i : Nat} (hi : i < 15) :
  w.cell? ⟨t, 0 + i * 5, none⟩ = some (.string (rlN i)) ∧ w.cell? ⟨t, 0 + i * 5 + 1, none⟩ = some (.int .i64 (g.R.getD i 0)) ∧ w.cell? ⟨t, 0 + i * 5 + 2, none⟩ = some (.int .i64 (rlK i)) ∧ w.cell? ⟨t, 0 + i * 5 + 3, none⟩ = some (.int .i64 (rlB i)) ∧ w.cell? ⟨t, 0 + i * 5 + 4, none⟩ = some (.bool (rlM i)) := by
 have key : ∀ j v, (rrC g).toList[j]? = some v → w.cell? ⟨t, j, none⟩ = some v := fun j v hv => by have := h.2 j v hv; rwa [Nat.zero_add] at this
 match i, hi with
 | 0, _ | 1, _ | 2, _ | 3, _ | 4, _ | 5, _ | 6, _ | 7, _ | 8, _ | 9, _ | 10, _ | 11, _ | 12, _ | 13, _ | 14, _ => exact ⟨key _ _ rfl, key _ _ rfl, key _ _ rfl, key _ _ rfl, key _ _ rfl⟩
set_option maxRecDepth 20000 in
set_option maxHeartbeats 1600000 in
theorem rroles_any (g : Grp) (w : World) : Calls Tryz.prog 116 #[rolV g] w fun e w' => (∃ t, e = .returned (.slice (some ⟨t, 0, none⟩) 15 15) ∧ RolAt w' t g) ∧ Below w.heap.size w w' := by
 have hB1 := below_alloc_new (w := w) (.cells #[.int .i64 g.r0, .int .i64 g.r1, .int .i64 g.r2, .int .i64 g.r3, .int .i64 g.r4, .int .i64 g.r5, .int .i64 g.r6, .int .i64 g.r7, .int .i64 g.r8, .int .i64 g.r9, .int .i64 g.r10, .int .i64 g.r11, .int .i64 g.r12, .int .i64 g.r13, .int .i64 g.r14] 26)
 have hB := below_new hB1 (.cells (rrC g) 156)
 have hR := rb_new w 26 g
 have hT := rol_new (w.alloc (.cells #[.int .i64 g.r0, .int .i64 g.r1, .int .i64 g.r2, .int .i64 g.r3, .int .i64 g.r4, .int .i64 g.r5, .int .i64 g.r6, .int .i64 g.r7, .int .i64 g.r8, .int .i64 g.r9, .int .i64 g.r10, .int .i64 g.r11, .int .i64 g.r12, .int .i64 g.r13, .int .i64 g.r14] 26)) 156 g
 have e1 : (w.alloc (.cells #[.int .i64 g.r0, .int .i64 g.r1, .int .i64 g.r2, .int .i64 g.r3, .int .i64 g.r4, .int .i64 g.r5, .int .i64 g.r6, .int .i64 g.r7, .int .i64 g.r8, .int .i64 g.r9, .int .i64 g.r10, .int .i64 g.r11, .int .i64 g.r12, .int .i64 g.r13, .int .i64 g.r14] 26)).heap.size = w.heap.size + 1 := by simp
 rw [e1] at hT
 obtain ⟨s0, hs0⟩ : ∃ s0, w.heap.size = s0 := ⟨_, rfl⟩
 rw [hs0] at hB hR hT ⊢
 have HT := Lib.hid hT
 have HB := Lib.hid hB
 obtain ⟨c0, c1, c2, c3, c4, c5, c6, c7, c8, c9, c10, c11, c12, c13, c14, rlt⟩ := hR
 clear hB1 e1 hT hB
 go_enter Tryz.func116, Tryz.ntmps116
 go_wp2_with fail
 go_ret
 exact ⟨⟨_, rfl, HT.out⟩, HB.out⟩
end Go.Proofs.YthokdplikidhiaaGreat
namespace Go.Proofs.YthokdplikidhiaaGreat.AK
open Go Go.RowKit
open Go.Proofs.YthokdplikidhiaaGreat.AS (edgesOk needsOk onceOk waits2 limOk allWritten allocsOk aOk Apart Written Written.more getD_flag)
variable {Rp Kp : World → World → Prop}
def storesOk (ops : Array Oper) (pt : List (List Nat)) (st : List Nat) (js : List (List Nat)) : Bool :=
 (List.range st.length).all fun m => decide (st.getD m 0 < ops.size) &&
  (Nat.beq m 0 || Region.waitsFor .any ops (st.getD m 0) (st.getD (m - 1) 0)) && (js.getD (m + 1) []).all fun d => (pt.getD (st.getD m 0) []).contains d || (js.getD m []).contains d || (match ops[st.getD m 0]? with | some o => o.dst == some d | none => false)
def lowOk (ops : Array Oper) (st ln : List Nat) : Bool :=
 (List.range ops.size).all fun i => Nat.beq (ln.getD i 0) 0 || (decide (ln.getD i 0 ≤ st.length) && waits2 ops i (st.getD (ln.getD i 0 - 1) 0))
def chk (al : List Nat) (ops : Array Oper) (pt : List (List Nat)) (ds st : List Nat) (js : List (List Nat)) (lm ln : List Nat) : Bool :=
 lowOk ops st ln && (allocsOk ops al st && al.all ds.contains && edgesOk ops && needsOk ops pt ds && onceOk ops && storesOk ops pt st js && limOk ops st lm && allWritten ops ds && (js.getD 0 []).isEmpty)
structure Chk (al : List Nat) (ops : Array Oper) (pt : List (List Nat)) (ds st : List Nat) (js : List (List Nat)) (lm ln : List Nat) : Prop where
 low : ∀ i, i < ops.size → ln.getD i 0 = 0 ∨ (ln.getD i 0 ≤ st.length ∧ waits2 ops i (st.getD (ln.getD i 0 - 1) 0) = true)
 edge : ∀ (i : Nat) (o : Oper), ops[i]? = some o → ∀ e ∈ o.after, Region.binds .any e = true → e.on < i
 dst : ∀ (i : Nat) (o : Oper), ops[i]? = some o → ∀ d, o.dst = some d → d ∈ ds
 need : ∀ (i : Nat) (o : Oper), ops[i]? = some o → ∀ d ∈ pt.getD i [], ∃ e ∈ o.after, Region.binds .any e = true ∧ ((∃ o' : Oper, ops[e.on]? = some o' ∧ o'.dst = some d) ∨ d ∈ pt.getD e.on [])
 once : ∀ (i j : Nat) (o o' : Oper) (d : Nat), ops[i]? = some o → ops[j]? = some o' → o.dst = some d → o'.dst = some d → i = j
 slt : ∀ m, m < st.length → st.getD m 0 < ops.size
 schain : ∀ m, 0 < m → m < st.length → Region.waitsFor .any ops (st.getD m 0) (st.getD (m - 1) 0) = true
 sjs : ∀ m, m < st.length → ∀ d ∈ js.getD (m + 1) [], d ∈ pt.getD (st.getD m 0) [] ∨ d ∈ js.getD m [] ∨ ∃ o : Oper, ops[st.getD m 0]? = some o ∧ o.dst = some d
 lim : ∀ i, i < ops.size → lm.getD i st.length = st.length ∨ waits2 ops (st.getD (lm.getD i st.length) ops.size) i = true
 wr : ∀ d ∈ ds, ∃ (i : Nat) (o : Oper), ops[i]? = some o ∧ o.dst = some d
 js0 : js.getD 0 [] = []
 alw : ∀ d ∈ al, ∀ m, m < st.length → ∃ (i : Nat) (o : Oper), ops[i]? = some o ∧ o.dst = some d ∧ waits2 ops (st.getD m 0) i = true
 ald : ∀ d ∈ al, d ∈ ds
section
variable {ops : Array Oper} {ds st lm ln al : List Nat} {js pt : List (List Nat)}
theorem chk_spec (h : chk al ops pt ds st js lm ln = true) : Chk al ops pt ds st js lm ln := by
 unfold chk at h
 simp only [Bool.and_eq_true] at h
 obtain ⟨h10, ⟨⟨⟨⟨⟨⟨⟨h8, h9⟩, h1⟩, h2⟩, h3⟩, h4⟩, h5⟩, h6⟩, h7⟩ := h
 have lt : ∀ (i : Nat) (o : Oper), ops[i]? = some o → i ∈ List.range ops.size := fun i o ho => List.mem_range.2 (Array.getElem?_eq_some_iff.1 ho).1
 constructor
 ·intro i hi
  have h := List.all_eq_true.1 h10 i (List.mem_range.2 hi)
  simp only [Bool.or_eq_true, Nat.beq_eq, Bool.and_eq_true, decide_eq_true_eq] at h
  exact h
 ·intro i o ho e he hb
  have h := List.all_eq_true.1 h1 i (lt i o ho)
  rw [ho] at h
  dsimp only at h
  rw [Array.all_eq_true_iff_forall_mem] at h
  have h := h e he
  rw [hb] at h
  simpa using h
 ·intro i o ho d hd
  have h := List.all_eq_true.1 h2 i (lt i o ho)
  rw [ho] at h
  dsimp only at h
  rw [hd] at h
  simp only [Bool.and_eq_true] at h
  simpa using h.1
 ·intro i o ho d hd
  have h := List.all_eq_true.1 h2 i (lt i o ho)
  rw [ho] at h
  simp only [Bool.and_eq_true] at h
  have h := List.all_eq_true.1 h.2 d hd
  rw [Array.any_eq_true] at h
  obtain ⟨k, hk, h⟩ := h
  rw [Bool.and_eq_true, Bool.or_eq_true] at h
  refine ⟨o.after[k], Array.getElem_mem _, h.1, ?_⟩
  rcases h.2 with h4 | h4
  ·left
   cases h5 : ops[(o.after[k]).on]? with
   | none => rw [h5] at h4; cases h4
   | some o' => rw [h5] at h4; exact ⟨o', rfl, by simpa using h4⟩
  ·right; simpa using h4
 ·intro i j o o' d ho ho' hd hd'
  have h := List.all_eq_true.1 (List.all_eq_true.1 h3 i (lt i o ho)) j (lt j o' ho')
  rw [ho, ho'] at h
  dsimp only at h
  rw [hd, hd'] at h
  simpa using h
 ·intro m hm
  have h := List.all_eq_true.1 h4 m (List.mem_range.2 hm)
  simp only [Bool.and_eq_true, decide_eq_true_eq] at h
  exact h.1.1
 ·intro m h0 hm
  have h := List.all_eq_true.1 h4 m (List.mem_range.2 hm)
  simp only [Bool.and_eq_true, decide_eq_true_eq, Bool.or_eq_true, Nat.beq_eq] at h
  rcases h.1.2 with h | h
  ·omega
  ·exact h
 ·intro m hm d hd
  have h := List.all_eq_true.1 h4 m (List.mem_range.2 hm)
  simp only [Bool.and_eq_true] at h
  have h := List.all_eq_true.1 h.2 d hd
  simp only [Bool.or_eq_true] at h
  rcases h with (h | h) | h
  ·exact .inl (by simpa using h)
  ·exact .inr (.inl (by simpa using h))
  ·cases ho : ops[st.getD m 0]? with
   | none => rw [ho] at h; cases h
   | some o => rw [ho] at h; exact .inr (.inr ⟨o, rfl, by simpa using h⟩)
 ·intro i hi
  have h := List.all_eq_true.1 h5 i (List.mem_range.2 hi)
  simp only [Bool.or_eq_true, Nat.beq_eq] at h
  exact h
 ·intro d hd
  have h := List.all_eq_true.1 h6 d hd
  rw [Array.any_eq_true] at h
  obtain ⟨k, hk, h⟩ := h
  exact ⟨k, ops[k], by simp [hk], by simpa using h⟩
 ·simpa using h7
 ·intro d hd m hm
  have h := List.all_eq_true.1 (List.all_eq_true.1 h8 d hd) (st.getD m 0) (by simp [hm])
  obtain ⟨i, hi, h⟩ := List.any_eq_true.1 h
  rw [Bool.and_eq_true] at h
  cases ho : ops[i]? with
  | none => rw [ho] at h; cases h.1
  | some o => rw [ho] at h; exact ⟨i, o, ho, by simpa using h.1, h.2⟩
 ·intro d hd
  have h := List.all_eq_true.1 h9 d hd
  simpa using h
end
open Go.Proofs.YthokdplikidhiaaGreat (fillL upd fillL_size fillL_get fillL_upd fillL_self filter_less none_listed put_fill)
structure Fact (Kp : World → World → Prop) where
 p : Value → World → Prop
 st : ∀ v w w', Kp w w' → p v w → p v w'
def Fact.triv : Fact Kp := ⟨fun _ _ => True, fun _ _ _ _ _ => trivial⟩
def Fact.is (x : Value) : Fact Kp := ⟨fun v _ => v = x, fun _ _ _ _ h => h⟩
def look : List (Nat × Fact Kp) → Nat → Fact Kp
 | [], _ => Fact.triv
 | (k, f) :: rest, d => bif Nat.beq k d then f else look rest d
def temps (FL : List (Nat × Fact Kp)) : List Nat := FL.map (·.1)
def factOf (FL : List (Nat × Fact Kp)) (dst : Option Nat) (v : Value) (w : World) : Prop := match dst with
 | none => True
 | some d => (look FL d).p v w
def Facts (FL : List (Nat × Fact Kp)) (u : Nat → Value) (w : World) : List Nat → Prop
 | [] => True
 | d :: ds => (look FL d).p (u d) w ∧ Facts FL u w ds
theorem facts_mk {FL : List (Nat × Fact Kp)} {u : Nat → Value} {w : World} {ds : List Nat} (h : ∀ d ∈ ds, (look FL d).p (u d) w) : Facts FL u w ds := by
 induction ds with
 | nil => trivial
 | cons d ds ih => exact ⟨h d (List.mem_cons_self ..), ih fun e he => h e (List.mem_cons_of_mem _ he)⟩
theorem facts_get {FL : List (Nat × Fact Kp)} {u : Nat → Value} {w : World} {ds : List Nat} (h : Facts FL u w ds) (d : Nat) (hd : d ∈ ds) : (look FL d).p (u d) w := by
 induction ds with
 | nil => cases hd
 | cons e ds ih =>
  rcases List.mem_cons.1 hd with rfl | hd
  ·exact h.1
  ·exact ih h.2 hd
section
variable {P : Program} {ops : Array Oper} {Q : Exit → Act → World → Prop} {FL : List (Nat × Fact Kp)} {J : Nat → List Value → World → Prop} {t0 : Array Value} {df : List Deferred} {ds : List Nat}
 {st lm ln al : List Nat} {js : List (List Nat)} {pt : List (List Nat)}
def StepOk (Rp : World → World → Prop) (al : List Nat) (P : Program) (ops : Array Oper) (Q : Exit → Act → World → Prop) (FL : List (Nat × Fact Kp)) (J : Nat → List Value → World → Prop) (js : List (List Nat)) (fr : (Nat → Value) → Array Value) (df : List Deferred) (o : Oper) (need : List Nat) (lim lo : Nat) : Prop :=
 ∀ (k : Nat) (u : Nat → Value) (w : World), k ≤ lim → lo ≤ k → J k ((js.getD k []).map u) w → Facts FL u w need → ∀ K : Act → World → Prop, Shut (∀ v w', Rp w w' → factOf FL o.dst v w' → aOk al o.dst v w w' → K ((⟨fr u, df⟩ : Act).put o.dst v) w') →
  if Region.wanted o (yielded ops (fr u)) = true then Oper.wp P o ⟨fr u, df⟩ w K Q else K ((⟨fr u, df⟩ : Act).put o.dst undef) w
def StoreOk (al : List Nat) (P : Program) (ops : Array Oper) (Q : Exit → Act → World → Prop) (FL : List (Nat × Fact Kp)) (J : Nat → List Value → World → Prop) (js : List (List Nat)) (fr : (Nat → Value) → Array Value) (df : List Deferred) (o : Oper) (need : List Nat) (k : Nat) : Prop :=
 ∀ (u : Nat → Value) (w : World), J k ((js.getD k []).map u) w → Apart al u → Facts FL u w need → ∀ K : Act → World → Prop, Shut (∀ v w', J (k + 1) ((js.getD (k + 1) []).map (upd u o.dst v)) w' → Kp w w' → factOf FL o.dst v w' → K ((⟨fr u, df⟩ : Act).put o.dst v) w') →
  if Region.wanted o (yielded ops (fr u)) = true then Oper.wp P o ⟨fr u, df⟩ w K Q else K ((⟨fr u, df⟩ : Act).put o.dst undef) w
def StepsOk (Rp : World → World → Prop) (al : List Nat) (P : Program) (ops : Array Oper) (Q : Exit → Act → World → Prop) (FL : List (Nat × Fact Kp)) (J : Nat → List Value → World → Prop) (js : List (List Nat)) (fr : (Nat → Value) → Array Value) (df : List Deferred) (pt : List (List Nat)) (st lm ln : List Nat) : List Oper → Nat → Prop
 | [], _ => True
 | o :: rest, i => (match st.idxOf? i with
   | some k => StoreOk al P ops Q FL J js fr df o (pt.getD i []) k
   | none => StepOk Rp al P ops Q FL J js fr df o (pt.getD i []) (lm.getD i st.length) (ln.getD i 0)) ∧ StepsOk Rp al P ops Q FL J js fr df pt st lm ln rest (i + 1)
theorem StepsOk.nil {fr : (Nat → Value) → Array Value} {i : Nat} : StepsOk Rp al P ops Q FL J js fr df pt st lm ln [] i := trivial
theorem sc {fr : (Nat → Value) → Array Value} {o : Oper} {rest : List Oper} {i : Nat} {need : List Nat} {lim lo : Nat} (h0 : st.idxOf? i = none) (h1 : pt.getD i [] = need) (h2 : lm.getD i st.length = lim) (h3 : ln.getD i 0 = lo)
  (h : StepOk Rp al P ops Q FL J js fr df o need lim lo) (hs : StepsOk Rp al P ops Q FL J js fr df pt st lm ln rest (i + 1)) : StepsOk Rp al P ops Q FL J js fr df pt st lm ln (o :: rest) i := ⟨by rw [h0, h1, h2, h3]; exact h, hs⟩
theorem ss {fr : (Nat → Value) → Array Value} {o : Oper} {rest : List Oper} {i k : Nat} {need : List Nat} (h0 : st.idxOf? i = some k) (h1 : pt.getD i [] = need)
  (h : StoreOk al P ops Q FL J js fr df o need k) (hs : StepsOk Rp al P ops Q FL J js fr df pt st lm ln rest (i + 1)) : StepsOk Rp al P ops Q FL J js fr df pt st lm ln (o :: rest) i := ⟨by rw [h0, h1]; exact h, hs⟩
theorem steps_at {fr : (Nat → Value) → Array Value} : ∀ (l : List Oper) (i0 : Nat), StepsOk Rp al P ops Q FL J js fr df pt st lm ln l i0 → ∀ i o, l[i]? = some o → (match st.idxOf? (i0 + i) with
      | some k => StoreOk al P ops Q FL J js fr df o (pt.getD (i0 + i) []) k
      | none => StepOk Rp al P ops Q FL J js fr df o (pt.getD (i0 + i) []) (lm.getD (i0 + i) st.length) (ln.getD (i0 + i) 0)) := by
  intro l
  induction l with
  | nil => intro i0 _ i o h; simp at h
  | cons x l ih =>
    intro i0 hs i o h
    cases i with
    | zero => simp at h; subst h; exact hs.1
    | succ i =>
      have := ih (i0 + 1) hs.2 i o (by simpa using h)
      rwa [show i0 + 1 + i = i0 + (i + 1) by omega] at this
structure Inv (al : List Nat) (ops : Array Oper) (FL : List (Nat × Fact Kp)) (J : Nat → List Value → World → Prop) (js : List (List Nat)) (t0 : Array Value) (df : List Deferred) (ds : List Nat) (pt : List (List Nat)) (st : List Nat) (listed : Array Bool) (a : Act) (w : World) : Prop where
 fr : ∃ k u, a = ⟨fillL u ds t0, df⟩ ∧ (∀ d, Written ops listed d → (look FL d).p (u d) w) ∧ J k ((js.getD k []).map u) w ∧ k ≤ st.length ∧ (∀ m, m < k → listed.getD (st.getD m 0) false = true) ∧
  (∀ m, k ≤ m → m < st.length → listed.getD (st.getD m 0) false = false) ∧ (∀ d ∈ js.getD k [], Written ops listed d) ∧ (∀ d ∈ al, Written ops listed d → ∃ g, u d = .pointer (some ⟨g, 0, none⟩) ∧ g < w.heap.size) ∧
  (∀ d ∈ al, ∀ d' ∈ al, d ≠ d' → Written ops listed d → Written ops listed d' → u d ≠ u d')
 cl : ∀ i, listed.getD i false = true → ∀ d ∈ pt.getD i [], Written ops listed d
 cs : ∀ j oj, ops[j]? = some oj → listed.getD j false = true → ∀ e ∈ oj.after, Region.binds .any e = true → listed.getD e.on false = true
 sz : listed.size = ops.size
theorem inv_step (hc : Chk al ops pt ds st js lm ln) (hsz : ∀ w w' : World, Kp w w' → w.heap.size ≤ w'.heap.size) (hrk : ∀ w w' : World, Rp w w' → Kp w w') (hst : ∀ k l w w', Rp w w' → J k l w → J k l w') (hs : StepsOk Rp al P ops Q FL J js (fun u => fillL u ds t0) df pt st lm ln ops.toList 0) {listed : Array Bool} {a : Act} {w : World}
    (hI : Inv al ops FL J js t0 df ds pt st listed a w) {i : Nat} (hi : i ∈ Region.ready .any ops listed) :
    wpOp P ops Q i (Inv al ops FL J js t0 df ds pt st (listed.setIfInBounds i true)) a w := by
  obtain ⟨h0, o, ho, hall⟩ := mem_ready.1 hi
  have hlt : i < ops.size := (Array.getElem?_eq_some_iff.1 ho).1
  have hil : i < listed.size := by rw [hI.sz]; exact hlt
  have hun : listed.getD i false = false := by rw [← getD_flag hil]; exact h0
  obtain ⟨k, u, rfl, hfac, hJ, hk, hk1, hk2, hk3, hk4, hk5⟩ := hI.fr
  have hneed : ∀ d ∈ pt.getD i [], Written ops listed d := by
    intro d hd
    obtain ⟨e, he, hb, h1⟩ := hc.need i o ho d hd
    have h2 := hall e he hb
    rcases h1 with ⟨o', h3, h4⟩ | h3
    · exact ⟨e.on, o', h2, h3, h4⟩
    · exact hI.cl e.on h2 d h3
  have hstep := steps_at _ _ hs i o (by simpa using ho)
  rw [Nat.zero_add] at hstep
  have hcs : ∀ j oj, ops[j]? = some oj → (listed.setIfInBounds i true).getD j false = true → ∀ e ∈ oj.after, Region.binds .any e = true → (listed.setIfInBounds i true).getD e.on false = true := by
    intro j oj hj hl e he hb
    by_cases hij : i = j
    · subst hij
      have : oj = o := Option.some.inj (hj.symm.trans ho)
      subst this
      exact getD_set_true (hall e he hb)
    · rw [getD_set_ne false hij] at hl
      exact getD_set_true (hI.cs j oj hj hl e he hb)
  have hcl : ∀ j, (listed.setIfInBounds i true).getD j false = true → ∀ d ∈ pt.getD j [], Written ops (listed.setIfInBounds i true) d := by
    intro j hj d hd
    by_cases hij : i = j
    · subst hij; exact (hneed d hd).more
    · rw [getD_set_ne false hij] at hj
      exact (hI.cl j hj d hd).more
  have hwait : ∀ m, m < k → ∀ j, Region.waitsFor .any ops (st.getD m 0) j = true → listed.getD j false = true := by
    intro m hm j hw
    obtain ⟨oj, hoj, e, he, hb, hon⟩ := Region.waitsFor_spec hw
    rw [← hon]
    exact hI.cs _ oj hoj (hk1 m hm) e he hb
  have hwait2 : ∀ m, m < k → ∀ j, waits2 ops (st.getD m 0) j = true → listed.getD j false = true := by
    intro m hm j hw
    unfold waits2 at hw
    rw [Bool.or_eq_true] at hw
    rcases hw with hw | hw
    · exact hwait m hm j hw
    · obtain ⟨x, -, hx⟩ := List.any_eq_true.1 hw
      rw [Bool.and_eq_true] at hx
      obtain ⟨oj, hoj, e, he, hb, hon⟩ := Region.waitsFor_spec hx.2
      rw [← hon]
      exact hI.cs _ oj hoj (hwait m hm x hx.1) e he hb
  cases hsi : st.idxOf? i with
  | none =>
    rw [hsi] at hstep
    have hns : ∀ m, m < st.length → st.getD m 0 ≠ i := by
      intro m hm e
      have h1 : i ∈ st := by rw [← e]; simp [hm]
      have h2 := List.idxOf?_eq_none_iff.1 hsi
      exact h2 h1
    have hlim : k ≤ lm.getD i st.length := by
      rcases hc.lim i hlt with h1 | h1
      · omega
      · rcases Nat.lt_or_ge (lm.getD i st.length) k with h2 | h2
        · exfalso
          have h3 := hwait2 _ h2 i (by
            have e : st.getD (lm.getD i st.length) ops.size = st.getD (lm.getD i st.length) 0 := by
              have : lm.getD i st.length < st.length := by omega
              generalize lm.getD i st.length = z at *
              simp [this]
            rw [← e]; exact h1)
          rw [hun] at h3; cases h3
        · exact h2
    have hlow : ln.getD i 0 ≤ k := by
      rcases hc.low i hlt with h1 | ⟨h0, h1⟩
      · omega
      · rcases Nat.lt_or_ge k (ln.getD i 0) with h2 | h2
        · exfalso
          have h3 : listed.getD (st.getD (ln.getD i 0 - 1) 0) false = true := by
            unfold waits2 at h1
            rw [Bool.or_eq_true] at h1
            rcases h1 with h1 | h1
            · obtain ⟨oj, hoj, e, he, hb, hon⟩ := Region.waitsFor_spec h1
              have : oj = o := Option.some.inj (hoj.symm.trans ho)
              subst this
              rw [← hon]; exact hall e he hb
            · obtain ⟨x, -, hx⟩ := List.any_eq_true.1 h1
              rw [Bool.and_eq_true] at hx
              obtain ⟨oj, hoj, e, he, hb, hon⟩ := Region.waitsFor_spec hx.1
              have : oj = o := Option.some.inj (hoj.symm.trans ho)
              subst this
              have h4 := hall e he hb
              rw [hon] at h4
              obtain ⟨oj2, hoj2, e2, he2, hb2, hon2⟩ := Region.waitsFor_spec hx.2
              rw [← hon2]
              exact hI.cs _ oj2 hoj2 h4 e2 he2 hb2
          rw [hk2 (ln.getD i 0 - 1) (by omega) (by omega)] at h3
          cases h3
        · exact h2
    refine wpOp_step ho (fun K' hK => hstep k u w hlim hlow hJ (facts_mk fun d hd => hfac d (hneed d hd)) K' ?_)
    intro v w' hb hf hao
    have hwi : ∀ d, Written ops (listed.setIfInBounds i true) d → o.dst = some d ∨ Written ops listed d := by
      rintro d ⟨j, o', h1, h2, h3⟩
      by_cases hij : i = j
      · subst hij
        rw [ho] at h2
        injection h2 with h2
        subst h2
        exact .inl h3
      · rw [getD_set_ne false hij] at h1
        exact .inr ⟨j, o', h1, h2, h3⟩
    have hnw : ∀ d, o.dst = some d → ¬ Written ops listed d := by
      rintro d hd ⟨j, o', h1, h2, h3⟩
      have := hc.once i j o o' d ho h2 hd h3
      subst this
      rw [hun] at h1; cases h1
    have hne : ∀ d, o.dst ≠ some d → upd u o.dst v d = u d := by
      intro d hd
      cases h : o.dst with
      | none => rfl
      | some d' => rw [h] at hd; simp only [upd]; rw [if_neg (fun h => hd (by rw [h]))]
    have hal : ∀ d ∈ al, o.dst = some d → v = .pointer (some ⟨w.heap.size, 0, none⟩) ∧ w.heap.size < w'.heap.size := by
      intro d hd h
      unfold aOk at hao
      rw [h] at hao
      dsimp only at hao
      rw [show al.contains d = true by simpa using hd] at hao
      exact hao
    refine hK _ _ ⟨⟨k, upd u o.dst v, put_fill u o v (hc.dst i o ho), ?_, ?_, hk, fun m hm => getD_set_true (hk1 m hm), fun m hm hm' => ?_, fun d hd => (hk3 d hd).more, fun d hd hw => ?_, fun d hd d' hd' hdd hw hw' => ?_⟩, hcl, hcs, by simpa using hI.sz⟩
    · rintro d ⟨j, o', h1, h2, h3⟩
      by_cases hd : o.dst = some d
      · rw [hd] at hf ⊢
        have e : upd u (some d) v d = v := by simp [upd]
        rw [e]; exact hf
      · have hw : Written ops listed d := by
          by_cases hij : i = j
          · subst hij
            rw [ho] at h2
            injection h2 with h2
            subst h2
            exact absurd h3 hd
          · rw [getD_set_ne false hij] at h1
            exact ⟨j, o', h1, h2, h3⟩
        have e : upd u o.dst v d = u d := by
          cases h : o.dst with
          | none => rfl
          | some d' => rw [h] at hd; simp only [upd]; rw [if_neg (fun h => hd (by rw [h]))]
        rw [e]
        exact (look FL d).st _ _ _ (hrk _ _ hb) (hfac d hw)
    · have e : (js.getD k []).map (upd u o.dst v) = (js.getD k []).map u := by
        apply List.map_congr_left
        intro d hd
        cases h : o.dst with
        | none => rfl
        | some d' =>
          simp only [upd]
          rw [if_neg]
          rintro rfl
          obtain ⟨j, o', h1, h2, h3⟩ := hk3 d hd
          have := hc.once i j o o' d ho h2 h h3
          subst this
          rw [hun] at h1; cases h1
      rw [e]
      exact hst _ _ _ _ hb hJ
    · rw [getD_set_ne false (Ne.symm (hns m hm'))]; exact hk2 m hm hm'
    · by_cases h : o.dst = some d
      · obtain ⟨h1, h2⟩ := hal d hd h
        exact ⟨w.heap.size, by rw [h]; simp [upd, h1], h2⟩
      · rcases hwi d hw with h1 | h1
        · exact absurd h1 h
        · obtain ⟨g, h2, h3⟩ := hk4 d hd h1
          exact ⟨g, by rw [hne d h]; exact h2, Nat.lt_of_lt_of_le h3 (hsz _ _ (hrk _ _ hb))⟩
    · by_cases h : o.dst = some d
      · have h' : o.dst ≠ some d' := fun h2 => hdd (by rw [h] at h2; injection h2)
        rcases hwi d' hw' with h1 | h1
        · exact absurd h1 h'
        · obtain ⟨g, h2, h3⟩ := hk4 d' hd' h1
          rw [hne d' h', h2, h]
          simp only [upd, if_pos]
          rw [(hal d hd h).1]
          intro he
          simp at he <;> omega
      · rcases hwi d hw with h1 | h1
        · exact absurd h1 h
        · by_cases h' : o.dst = some d'
          · obtain ⟨g, h2, h3⟩ := hk4 d hd h1
            rw [hne d h, h2, h']
            simp only [upd, if_pos]
            rw [(hal d' hd' h').1]
            intro he
            simp at he <;> omega
          · rcases hwi d' hw' with h2 | h2
            · exact absurd h2 h'
            · rw [hne d h, hne d' h']; exact hk5 d hd d' hd' hdd h1 h2
  | some m =>
    rw [hsi] at hstep
    obtain ⟨hm, hmi, -⟩ := List.idxOf?_eq_some_iff.1 hsi
    have hmi' : st.getD m 0 = i := by simp [hm]; exact hmi
    have hmk : m = k := by
      rcases Nat.lt_trichotomy m k with h1 | h1 | h1
      · have := hk1 m h1; rw [hmi', hun] at this; cases this
      · exact h1
      · exfalso
        have h2 := hc.schain m (by omega) hm
        rw [hmi'] at h2
        obtain ⟨oj, hoj, e, he, hb, hon⟩ := Region.waitsFor_spec h2
        have : oj = o := Option.some.inj (hoj.symm.trans ho)
        subst this
        have h3 := hall e he hb
        rw [hon, hk2 (m - 1) (by omega) (by omega)] at h3
        cases h3
    subst hmk
    have hwal : ∀ d ∈ al, Written ops listed d := by
      intro d hd
      obtain ⟨j, o', h1, h2, h3⟩ := hc.alw d hd m hm
      rw [hmi'] at h3
      refine ⟨j, o', ?_, h1, h2⟩
      unfold waits2 at h3
      rw [Bool.or_eq_true] at h3
      rcases h3 with h3 | h3
      · obtain ⟨oj, hoj, e, he, hb, hon⟩ := Region.waitsFor_spec h3
        have : oj = o := Option.some.inj (hoj.symm.trans ho)
        subst this
        rw [← hon]; exact hall e he hb
      · obtain ⟨x, -, hx⟩ := List.any_eq_true.1 h3
        rw [Bool.and_eq_true] at hx
        obtain ⟨oj, hoj, e, he, hb, hon⟩ := Region.waitsFor_spec hx.1
        have : oj = o := Option.some.inj (hoj.symm.trans ho)
        subst this
        have h4 := hall e he hb
        rw [hon] at h4
        obtain ⟨oj2, hoj2, e2, he2, hb2, hon2⟩ := Region.waitsFor_spec hx.2
        rw [← hon2]
        exact hI.cs _ oj2 hoj2 h4 e2 he2 hb2
    refine wpOp_step ho (fun K' hK => hstep u w hJ (fun d hd d' hd' hdd => hk5 d hd d' hd' hdd (hwal d hd) (hwal d' hd')) (facts_mk fun d hd => hfac d (hneed d hd)) K' ?_)
    intro v w' hJ' hb hf
    have hnw : ∀ d, o.dst = some d → ¬ Written ops listed d := by
      rintro d hd ⟨j, o', h1, h2, h3⟩
      have := hc.once i j o o' d ho h2 hd h3
      subst this
      rw [hun] at h1; cases h1
    have hne : ∀ d, o.dst ≠ some d → upd u o.dst v d = u d := by
      intro d hd
      cases h : o.dst with
      | none => rfl
      | some d' => rw [h] at hd; simp only [upd]; rw [if_neg (fun h => hd (by rw [h]))]
    have hnl : ∀ d ∈ al, o.dst ≠ some d := fun d hd h => hnw d h (hwal d hd)
    refine hK _ _ ⟨⟨m + 1, upd u o.dst v, put_fill u o v (hc.dst i o ho), ?_, hJ', hm, fun j hj => ?_, fun j hj hj' => ?_, fun d hd => ?_, fun d hd hw => ?_, fun d hd d' hd' hdd hw hw' => by rw [hne d (hnl d hd), hne d' (hnl d' hd')]; exact hk5 d hd d' hd' hdd (hwal d hd) (hwal d' hd')⟩, hcl, hcs, by simpa using hI.sz⟩
    · rintro d ⟨j, o', h1, h2, h3⟩
      by_cases hd : o.dst = some d
      · rw [hd] at hf ⊢
        have e : upd u (some d) v d = v := by simp [upd]
        rw [e]; exact hf
      · have hw : Written ops listed d := by
          by_cases hij : i = j
          · subst hij
            rw [ho] at h2
            injection h2 with h2
            subst h2
            exact absurd h3 hd
          · rw [getD_set_ne false hij] at h1
            exact ⟨j, o', h1, h2, h3⟩
        rw [hne d hd]
        exact (look FL d).st _ _ _ hb (hfac d hw)
    · by_cases h1 : j = m
      · subst h1; rw [hmi']; simp [hil]
      · exact getD_set_true (hk1 j (by omega))
    · have h1 := hk2 j (by omega) hj'
      by_cases h2 : st.getD j 0 = i
      · exfalso
        have h3 : ∀ n, m ≤ n → n < st.length → i ≤ st.getD n 0 ∧ (m < n → i < st.getD n 0) := by
          intro n
          induction n with
          | zero => intro h4 h5; exact ⟨by have : m = 0 := by omega
                                           subst this; rw [hmi']; exact Nat.le_refl _, fun h => by omega⟩
          | succ n ih =>
            intro h4 h5
            by_cases h6 : m = n + 1
            · subst h6; exact ⟨by rw [hmi']; exact Nat.le_refl _, fun h => by omega⟩
            · have h7 := ih (by omega) (by omega)
              have h8 := hc.schain (n + 1) (by omega) h5
              obtain ⟨oj, hoj, e, he, hb', hon⟩ := Region.waitsFor_spec h8
              have h9 := hc.edge _ oj hoj e he hb'
              rw [hon, Nat.add_sub_cancel] at h9
              exact ⟨by omega, fun _ => by omega⟩
        have := (h3 j (by omega) hj').2 (by omega)
        omega
      · rw [getD_set_ne false (Ne.symm h2)]; exact h1
    · rcases hc.sjs m hm d hd with h1 | h1
      · rw [hmi'] at h1; exact (hneed d h1).more
      · rcases h1 with h1 | ⟨o2, h1, h2⟩
        · exact (hk3 d h1).more
        · rw [hmi'] at h1
          exact ⟨i, o2, by simp [hil], h1, h2⟩
    · obtain ⟨g, h1, h2⟩ := hk4 d hd (hwal d hd)
      exact ⟨g, by rw [hne d (hnl d hd)]; exact h1, Nat.lt_of_lt_of_le h2 (hsz _ _ hb)⟩
theorem ready_nil_all (hc : Chk al ops pt ds st js lm ln) {listed : Array Bool} (hsz : listed.size = ops.size) (hr : Region.ready .any ops listed = []) : ∀ n i, i < n → i < ops.size → listed.getD i false = true := by
 intro n
 induction n with
 | zero => intro i h; omega
 | succ n ih =>
  intro i hin hi
  have hil : i < listed.size := by omega
  cases hv : listed.getD i false with
  | true => rfl
  | false =>
   exfalso
   have ho : ops[i]? = some ops[i] := by simp [hi]
   have : i ∈ Region.ready .any ops listed := by
    rw [mem_ready]
    refine ⟨by simp [hil] at hv ⊢; exact hv, _, ho, fun e he hb => ?_⟩
    have h1 := hc.edge i _ ho e he hb
    exact ih e.on (by omega) (by omega)
   rw [hr] at this
   cases this
theorem wpAny_inv (hc : Chk al ops pt ds st js lm ln) (hsz : ∀ w w' : World, Kp w w' → w.heap.size ≤ w'.heap.size) (hrk : ∀ w w' : World, Rp w w' → Kp w w') (hst : ∀ k l w w', Rp w w' → J k l w → J k l w') (hs : StepsOk Rp al P ops Q FL J js (fun u => fillL u ds t0) df pt st lm ln ops.toList 0)
  (hend : ∀ u w, J st.length ((js.getD st.length []).map u) w → Facts FL u w ds → Q .normal ⟨fillL u ds t0, df⟩ w) :
  ∀ (fuel : Nat) (listed : Array Bool) (a : Act) (w : World), ((List.range ops.size).filter fun j => !listed.getD j true).length ≤ fuel → Inv al ops FL J js t0 df ds pt st listed a w → wpAny P .any ops Q fuel listed a w := by
 have hfin : ∀ (listed : Array Bool) (a : Act) (w : World), Inv al ops FL J js t0 df ds pt st listed a w → Region.ready .any ops listed = [] → Q .normal a w := by
  intro listed a w hI hr
  obtain ⟨k, u, rfl, hfac, hJ, hk, hk1, hk2, hk3, hk4, hk5⟩ := hI.fr
  have hall := Go.Proofs.YthokdplikidhiaaGreat.AK.ready_nil_all hc hI.sz hr
  have hkl : k = st.length := by
   rcases Nat.lt_or_ge k st.length with h | h
   ·have h1 := hk2 k (Nat.le_refl _) h
    rw [hall (st.getD k 0 + 1) _ (by omega) (hc.slt k h)] at h1
    cases h1
   ·omega
  subst hkl
  refine hend u w hJ (facts_mk fun d hd => hfac d ?_)
  obtain ⟨i, o, h1, h2⟩ := hc.wr d hd
  exact ⟨i, o, hall (i + 1) i (by omega) (Array.getElem?_eq_some_iff.1 h1).1, h1, h2⟩
 intro fuel
 induction fuel with
 | zero =>
  intro listed a w hcnt hI
  have hr : Region.ready .any ops listed = [] := by
   rw [List.eq_nil_iff_forall_not_mem]
   intro j hj
   obtain ⟨h0, o, ho, -⟩ := mem_ready.1 hj
   have hlt : j < ops.size := (Array.getElem?_eq_some_iff.1 ho).1
   have hm : j ∈ (List.range ops.size).filter fun j => !listed.getD j true := by
    rw [List.mem_filter]
    exact ⟨List.mem_range.2 hlt, by rw [h0]; rfl⟩
   have := List.length_pos_of_mem hm
   omega
  exact ⟨hr, hfin _ _ _ hI hr⟩
 | succ fuel ih =>
  intro listed a w hcnt hI
  refine ⟨fun hr => hfin _ _ _ hI hr, fun i hi => ?_⟩
  obtain ⟨h0, o, ho, -⟩ := mem_ready.1 hi
  have hlt : i < ops.size := (Array.getElem?_eq_some_iff.1 ho).1
  refine wpOp_mono (fun a' w' hI' => ih _ a' w' ?_ hI') (inv_step hc hsz hrk hst hs hI hi)
  have := filter_less (p := fun j => !listed.getD j true) (q := fun j => !(listed.setIfInBounds i true).getD j true) (i := i) (by simp only [h0]; rfl) (by
   have hil : i < listed.size := by rw [hI.sz]; exact hlt
   simp [hil]) (fun j hj => by
   by_cases hij : i = j
   ·subst hij
    exfalso
    have hil : i < listed.size := by rw [hI.sz]; exact hlt
    simp [hil] at hj
   ·rw [getD_set_ne true hij] at hj; exact hj) (List.range ops.size) (List.mem_range.2 hlt)
  omega
theorem region_facts {id : Nat} {w : World} {opl : List Oper} (FL : List (Nat × Fact Kp)) (J : Nat → List Value → World → Prop) (pt : List (List Nat)) (st : List Nat) (js : List (List Nat)) (lm ln : List Nat) (al : List Nat) {fr : (Nat → Value) → Array Value} (hfr : ∀ u, fillL u (temps FL) t0 = fr u)
  (hm : P.follows .mixedOrders = true) (hchk : chk al opl.toArray pt (temps FL) st js lm ln = true) (hsz : ∀ w w' : World, Kp w w' → w.heap.size ≤ w'.heap.size) (hrk : ∀ w w' : World, Rp w w' → Kp w w') (hst : ∀ k l w w', Rp w w' → J k l w → J k l w') (hJ : J 0 [] w.drew)
  (hs : StepsOk Rp al P opl.toArray Q FL J js fr df pt st lm ln opl 0)
  (hend : ∀ u w, J st.length ((js.getD st.length []).map u) w → Facts FL u w (temps FL) → Q .normal ⟨fr u, df⟩ w) : (Code.region id opl.toArray true).wp P Q ⟨t0, df⟩ w := by
 obtain rfl : (fun u => fillL u (temps FL) t0) = fr := funext hfr
 have hc := chk_spec hchk
 refine wp_region_any hm (wpAny_inv (t0 := t0) hc hsz hrk hst hs hend opl.toArray.size _ _ _ ?_ ⟨⟨0, fun d => t0.getD d undef, by rw [fillL_self], ?_, by rw [hc.js0]; exact hJ, Nat.zero_le _, fun m h => by omega, fun m _ _ => none_listed _ _, fun d hd => (by rw [hc.js0] at hd; cases hd), fun d _ hw => (by obtain ⟨j, o', h1, _, _⟩ := hw; rw [none_listed] at h1; cases h1), fun d _ d' _ _ hw => by obtain ⟨j, o', h1, _, _⟩ := hw; rw [none_listed] at h1; cases h1⟩, ?_, ?_, by simp⟩)
 ·exact Nat.le_trans (List.length_filter_le _ _) (by simp)
 ·rintro d ⟨j, o', h1, -, -⟩
  rw [none_listed] at h1; cases h1
 ·intro i hi
  rw [none_listed] at hi; cases hi
 ·intro j oj _ hl
  rw [none_listed] at hl; cases hl
end
end Go.Proofs.YthokdplikidhiaaGreat.AK
