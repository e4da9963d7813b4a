/- Contracts of the functions that the statements reach, part 1: what was proved of each, callees first. -/
import Derived.Test.YteejefeociclbaaProg
import Derived.WalkKit
import Derived.WalkSpells
import Derived.Lib.Hide
import Derived.Deep.QuietTactic
import Derived.BigQuiet
import Derived.LoopTactic
import Derived.Laws.Cells
import Derived.Below
import Derived.Deep.Draws
import Derived.Laws.Rows
import Derived.Laws.CopyOwn
import Derived.Deep.OwnRows
import Derived.Outline
import Derived.Lib.ItoaNum
import Derived.Laws.RangeAny
import Derived.Laws.DeepStrings4
import Derived.Deep.RegionHeld
import Derived.StillTail
import Derived.Handed
import Derived.ProofKit
import Derived.ChangeSlices
import Derived.OpenShut
import Derived.Carry
import Derived.ChangeSame
namespace Go.Proofs.Yteejefeociclbaa
def lpB (y : Int) : Bool := decide (y % 4 = 0) && (decide (y % 100 ≠ 0) || decide (y % 400 = 0))
def lpI (y : Int) : Int := if lpB y then 1 else 0
def mdy (y m : Int) : Int := if m = 2 then 28 + lpI y else if m = 4 ∨ m = 6 ∨ m = 9 ∨ m = 11 then 30 else 31
def inYM (y m : Int) : Bool := decide (1900 ≤ y) && decide (y ≤ 2199) && decide (1 ≤ m) && decide (m ≤ 12)
def dys (y m : Int) : Int := if inYM y m then mdy y m else 0
def lpN (y : Int) : Int := (y - 1) / 4 - (y - 1) / 100 + (y - 1) / 400
def nyr (y : Int) : Int := -25567 + 365 * (y - 1900) + lpN y - 460
def mon (y m : Int) : Int := if m ≤ 1 then 0 else if m = 2 then 31 else (if m = 3 then 59 else if m = 4 then 90 else if m = 5 then 120 else if m = 6 then 151 else if m = 7 then 181 else if m = 8 then 212 else if m = 9 then 243 else if m = 10 then 273 else if m = 11 then 304 else if m = 12 then 334 else 365) + lpI y
def dno (y m d : Int) : Int := nyr y + mon y m + d - 1
theorem lpB_iff (y : Int) : lpB y = true ↔ y % 4 = 0 ∧ (y % 100 ≠ 0 ∨ y % 400 = 0) := by simp [lpB]
theorem lpI_01 (y : Int) : lpI y = 0 ∨ lpI y = 1 := by unfold lpI; split <;> simp
theorem inYM_iff {y m : Int} : inYM y m = true ↔ 1900 ≤ y ∧ y ≤ 2199 ∧ 1 ≤ m ∧ m ≤ 12 := by simp [inYM, and_assoc]
theorem nyr_succ (y : Int) (_h0 : 1900 ≤ y) : nyr (y + 1) = nyr y + 365 + lpI y := by
 unfold nyr lpN
 by_cases h : lpB y = true
 ·have h1 := (lpB_iff y).1 h
  rw [show lpI y = 1 by rw [lpI, if_pos h]]
  omega
 ·have h1 : ¬ (y % 4 = 0 ∧ (y % 100 ≠ 0 ∨ y % 400 = 0)) := fun e => h ((lpB_iff y).2 e)
  rw [show lpI y = 0 by rw [lpI, if_neg h]]
  omega
theorem nyr_1900 : nyr 1900 = -25567 := by decide
theorem nyr_2200 : nyr 2200 = 84006 := by decide
theorem nyr_step (y : Int) (k : Nat) (h0 : 1900 ≤ y) : nyr y + 365 * k ≤ nyr (y + k) := by
 induction k with
 | zero => simp
 | succ k ih =>
  have h1 := nyr_succ (y + k) (by omega)
  have h2 := lpI_01 (y + k)
  rw [show y + ((k + 1 : Nat) : Int) = y + k + 1 by omega, h1]
  omega
theorem nyr_mono {y z : Int} (h0 : 1900 ≤ y) (h : y ≤ z) : nyr y + 365 * (z - y) ≤ nyr z := by
 have h1 := nyr_step y (z - y).toNat h0
 have h2 : ((z - y).toNat : Int) = z - y := Int.toNat_of_nonneg (by omega)
 rw [h2, show y + (z - y) = z by omega] at h1
 exact h1
theorem nyr_bd {y : Int} (h0 : 1900 ≤ y) (h1 : y ≤ 2200) : -25567 ≤ nyr y ∧ nyr y ≤ 84006 := by
 have h2 := nyr_mono (Int.le_refl 1900) h0
 have h3 := nyr_mono h0 h1
 rw [nyr_1900] at h2
 rw [nyr_2200] at h3
 omega
theorem mdy_bd (y m : Int) : 28 ≤ mdy y m ∧ mdy y m ≤ 31 := by
 have := lpI_01 y
 unfold mdy
 split <;> (try split) <;> omega
theorem twelve {m : Int} (h0 : 1 ≤ m) (h1 : m ≤ 12) : m = 1 ∨ m = 2 ∨ m = 3 ∨ m = 4 ∨ m = 5 ∨ m = 6 ∨ m = 7 ∨ m = 8 ∨ m = 9 ∨ m = 10 ∨ m = 11 ∨ m = 12 := by omega
theorem mon_1 (y : Int) : mon y 1 = 0 := rfl
theorem mon_13 (y : Int) : mon y 13 = 365 + lpI y := rfl
theorem mon_succ (y m : Int) (h0 : 1 ≤ m) (h1 : m ≤ 12) : mon y (m + 1) = mon y m + mdy y m := by
 rcases twelve h0 h1 with rfl | rfl | rfl | rfl | rfl | rfl | rfl | rfl | rfl | rfl | rfl | rfl <;> simp [mon, mdy] <;> omega
theorem mon_step (y m : Int) (k : Nat) (h0 : 1 ≤ m) (h1 : m + k ≤ 13) : mon y m + 28 * k ≤ mon y (m + k) := by
 induction k with
 | zero => simp
 | succ k ih =>
  have h2 := mon_succ y (m + k) (by omega) (by omega)
  have h3 := mdy_bd y (m + k)
  have h4 := ih (by omega)
  rw [show m + ((k + 1 : Nat) : Int) = m + k + 1 by omega, h2]
  omega
theorem mon_mono {y m n : Int} (h0 : 1 ≤ m) (h : m ≤ n) (h1 : n ≤ 13) : mon y m + 28 * (n - m) ≤ mon y n := by
 have h2 : ((n - m).toNat : Int) = n - m := Int.toNat_of_nonneg (by omega)
 have h3 := mon_step y m (n - m).toNat h0 (by omega)
 rw [h2, show m + (n - m) = n by omega] at h3
 exact h3
theorem mon_bd {y m : Int} (h0 : 1 ≤ m) (h1 : m ≤ 13) : 0 ≤ mon y m ∧ mon y m ≤ 365 + lpI y := by
 have h2 := mon_mono (y := y) (Int.le_refl 1) h0 h1
 have h3 := mon_mono (y := y) h0 h1 (Int.le_refl 13)
 rw [mon_1] at h2
 rw [mon_13] at h3
 omega
structure IsCiv (n y m d : Int) : Prop where
 y0 : 1900 ≤ y
 y1 : y ≤ 2199
 m0 : 1 ≤ m
 m1 : m ≤ 12
 d0 : 1 ≤ d
 d1 : d ≤ mdy y m
 eq : n = dno y m d
def vdB (n : Int) : Bool := decide (-25567 ≤ n) && decide (n ≤ 84005)
theorem vdB_iff {n : Int} : vdB n = true ↔ -25567 ≤ n ∧ n ≤ 84005 := by simp [vdB]
theorem lpN_bd {y : Int} (h0 : 1900 ≤ y) (h1 : y ≤ 2201) : 460 ≤ lpN y ∧ lpN y ≤ 533 := by unfold lpN; omega
def dayB (y m d : Int) : Bool := decide (1 ≤ d) && decide (d ≤ dys y m)
theorem dys_in {y m : Int} (h : inYM y m = true) : dys y m = mdy y m := by rw [dys, if_pos h]
theorem dys_out {y m : Int} (h : inYM y m = false) : dys y m = 0 := by rw [dys, h]; rfl
theorem dayB_iff {y m d : Int} : dayB y m d = true ↔ IsCiv (dno y m d) y m d := by
 unfold dayB
 rw [Bool.and_eq_true, decide_eq_true_eq, decide_eq_true_eq]
 constructor
 ·intro ⟨h0, h1⟩
  cases hi : inYM y m
  ·rw [dys_out hi] at h1; omega
  ·rw [dys_in hi] at h1
   obtain ⟨a, b, c, d⟩ := inYM_iff.1 hi
   exact ⟨a, b, c, d, h0, h1, rfl⟩
 ·intro h
  have hi : inYM y m = true := inYM_iff.2 ⟨h.y0, h.y1, h.m0, h.m1⟩
  rw [dys_in hi]
  exact ⟨h.d0, h.d1⟩
def ofN (y m d : Int) : Int := if dayB y m d then dno y m d else 0
def ofE (y m d : Int) : Int := if dayB y m d then 0 else 2
open Go.RowKit
theorem lpB_eq (y : Int) : lpB y = ((y % 4 == 0) && ((y % 100 != 0) || (y % 400 == 0))) := by
 rw [Bool.eq_iff_iff, lpB_iff]; simp
theorem isLeap_any (y : Int) (w : World) (h0 : 0 ≤ y) : Calls Try.prog 30 #[.int .i64 y] w fun e w' => e = .returned (.bool (lpB y)) ∧ w = w' := by
 rw [lpB_eq]
 cases h1 : (y % 4 == 0)
 ·go_enter Try.func30, Try.ntmps30
  go_wp2
  go_ret
  exact ⟨rfl, rfl⟩
 ·cases h2 : (y % 100 == 0)
  ·have h2' : (y % 100 != 0) = true := by rw [bne, h2]; rfl
   rw [h2']
   go_enter Try.func30, Try.ntmps30
   go_wp2
   go_ret
   exact ⟨rfl, rfl⟩
  ·have h2' : (y % 100 != 0) = false := by rw [bne, h2]; rfl
   rw [h2']
   go_enter Try.func30, Try.ntmps30
   go_wp2
   go_ret
   exact ⟨by simp, rfl⟩
theorem vd_any (n : Int) (w : World) : Calls Try.prog 18 #[.int .i64 n] w fun e w' => e = .returned (.bool (vdB n)) ∧ w = w' := by
 unfold vdB
 by_cases h1 : (-25567 : Int) ≤ n
 ·rw [decide_eq_true h1]
  go_enter Try.func18, Try.ntmps18
  go_wp2
  go_ret
  exact ⟨rfl, rfl⟩
 ·rw [decide_eq_false h1]
  have h3 : decide ((-25567 : Int) ≤ n) = false := decide_eq_false h1
  clear h1
  go_enter Try.func18, Try.ntmps18
  go_wp2
  go_ret
  exact ⟨rfl, rfl⟩
theorem leapDays_any (y : Int) (w : World) (h0 : 1 ≤ y) (h1 : y ≤ 1000000) : Calls Try.prog 36 #[.int .i64 y] w fun e w' => e = .returned (.int .i64 (lpN y)) ∧ w = w' := by
 go_enter Try.func36, Try.ntmps36
 go_wp2
 go_ret
 exact ⟨rfl, rfl⟩
theorem newYear_any (y : Int) (w : World) (h0 : 1900 ≤ y) (h1 : y ≤ 2201) : Calls Try.prog 28 #[.int .i64 y] w fun e w' => e = .returned (.int .i64 (nyr y)) ∧ w = w' := by
 have hb := lpN_bd h0 h1
 have hc := lpN_bd (y := 1900) (by omega) (by omega)
 have he : nyr y = -25567 + 365 * (y - 1900) + lpN y - lpN 1900 := rfl
 rw [he]
 clear he
 go_enter Try.func28, Try.ntmps28
 go_wp2_with (go_at_call 36; refine (leapDays_any _ _ (by omega) (by omega)).mono ?_; rintro e w' ⟨rfl, rfl⟩)
 go_ret
 exact ⟨rfl, rfl⟩
theorem days_out (y m : Int) (w : World) (h : inYM y m = false) : Calls Try.prog 14 #[.int .i64 y, .int .i64 m] w fun e w' => e = .returned (.int .i64 0) ∧ Below w.heap.size w w' := by
 have hx : y < 1900 ∨ ¬ y < 1900 ∧ 2199 < y ∨ ¬ y < 1900 ∧ ¬ 2199 < y ∧ m < 1 ∨ ¬ y < 1900 ∧ ¬ 2199 < y ∧ ¬ m < 1 ∧ 12 < m := by
  have h2 : ¬ (1900 ≤ y ∧ y ≤ 2199 ∧ 1 ≤ m ∧ m ≤ 12) := fun e => by rw [inYM_iff.2 e] at h; cases h
  omega
 clear h
 rcases hx with h1 | ⟨h0, h1⟩ | ⟨h0, h1, h2⟩ | ⟨h0, h1, h2, h3⟩
 ·go_enter Try.func14, Try.ntmps14
  go_wp2
  go_ret
  exact ⟨rfl, (Below.refl _ _).alloc (Nat.le_refl _) _⟩
 all_goals
  go_enter Try.func14, Try.ntmps14
  go_wp2
  go_ret
  exact ⟨rfl, (Below.refl _ _).alloc (Nat.le_refl _) _⟩
theorem days_two (y : Int) (w : World) (h0 : 1900 ≤ y) (h1 : y ≤ 2199) : Calls Try.prog 14 #[.int .i64 y, .int .i64 2] w fun e w' => e = .returned (.int .i64 (28 + lpI y)) ∧ Below w.heap.size w w' := by
 cases hl : lpB y
 ·have hi := fun w => isLeap_any y w (by omega)
  rw [hl] at hi
  rw [show lpI y = 0 by rw [lpI, hl]; rfl]
  have HI := Lib.hid hi
  clear hi hl
  go_enter Try.func14, Try.ntmps14
  go_wp2_with (go_at_call 30; refine (HI.out _).mono ?_; rintro e w' ⟨rfl, rfl⟩)
  go_ret
  exact ⟨rfl, (Below.refl _ _).alloc (Nat.le_refl _) _⟩
 ·have hi := fun w => isLeap_any y w (by omega)
  rw [hl] at hi
  rw [show lpI y = 1 by rw [lpI, hl]; rfl]
  have HI := Lib.hid hi
  clear hi hl
  go_enter Try.func14, Try.ntmps14
  go_wp2_with (go_at_call 30; refine (HI.out _).mono ?_; rintro e w' ⟨rfl, rfl⟩)
  go_ret
  exact ⟨rfl, (Below.refl _ _).alloc (Nat.le_refl _) _⟩
theorem days_1 (y : Int) (w : World) (h0 : 1900 ≤ y) (h1 : y ≤ 2199) : Calls Try.prog 14 #[.int .i64 y, .int .i64 1] w fun e w' => e = .returned (.int .i64 31) ∧ Below w.heap.size w w' := by
 go_enter Try.func14, Try.ntmps14
 go_wp2
 go_ret
 exact ⟨rfl, (Below.refl _ _).alloc (Nat.le_refl _) _⟩
theorem days_3 (y : Int) (w : World) (h0 : 1900 ≤ y) (h1 : y ≤ 2199) : Calls Try.prog 14 #[.int .i64 y, .int .i64 3] w fun e w' => e = .returned (.int .i64 31) ∧ Below w.heap.size w w' := by
 go_enter Try.func14, Try.ntmps14
 go_wp2
 go_ret
 exact ⟨rfl, (Below.refl _ _).alloc (Nat.le_refl _) _⟩
theorem days_4 (y : Int) (w : World) (h0 : 1900 ≤ y) (h1 : y ≤ 2199) : Calls Try.prog 14 #[.int .i64 y, .int .i64 4] w fun e w' => e = .returned (.int .i64 30) ∧ Below w.heap.size w w' := by
 go_enter Try.func14, Try.ntmps14
 go_wp2
 go_ret
 exact ⟨rfl, (Below.refl _ _).alloc (Nat.le_refl _) _⟩
theorem days_5 (y : Int) (w : World) (h0 : 1900 ≤ y) (h1 : y ≤ 2199) : Calls Try.prog 14 #[.int .i64 y, .int .i64 5] w fun e w' => e = .returned (.int .i64 31) ∧ Below w.heap.size w w' := by
 go_enter Try.func14, Try.ntmps14
 go_wp2
 go_ret
 exact ⟨rfl, (Below.refl _ _).alloc (Nat.le_refl _) _⟩
theorem days_6 (y : Int) (w : World) (h0 : 1900 ≤ y) (h1 : y ≤ 2199) : Calls Try.prog 14 #[.int .i64 y, .int .i64 6] w fun e w' => e = .returned (.int .i64 30) ∧ Below w.heap.size w w' := by
 go_enter Try.func14, Try.ntmps14
 go_wp2
 go_ret
 exact ⟨rfl, (Below.refl _ _).alloc (Nat.le_refl _) _⟩
theorem days_7 (y : Int) (w : World) (h0 : 1900 ≤ y) (h1 : y ≤ 2199) : Calls Try.prog 14 #[.int .i64 y, .int .i64 7] w fun e w' => e = .returned (.int .i64 31) ∧ Below w.heap.size w w' := by
 go_enter Try.func14, Try.ntmps14
 go_wp2
 go_ret
 exact ⟨rfl, (Below.refl _ _).alloc (Nat.le_refl _) _⟩
theorem days_8 (y : Int) (w : World) (h0 : 1900 ≤ y) (h1 : y ≤ 2199) : Calls Try.prog 14 #[.int .i64 y, .int .i64 8] w fun e w' => e = .returned (.int .i64 31) ∧ Below w.heap.size w w' := by
 go_enter Try.func14, Try.ntmps14
 go_wp2
 go_ret
 exact ⟨rfl, (Below.refl _ _).alloc (Nat.le_refl _) _⟩
theorem days_9 (y : Int) (w : World) (h0 : 1900 ≤ y) (h1 : y ≤ 2199) : Calls Try.prog 14 #[.int .i64 y, .int .i64 9] w fun e w' => e = .returned (.int .i64 30) ∧ Below w.heap.size w w' := by
 go_enter Try.func14, Try.ntmps14
 go_wp2
 go_ret
 exact ⟨rfl, (Below.refl _ _).alloc (Nat.le_refl _) _⟩
theorem days_10 (y : Int) (w : World) (h0 : 1900 ≤ y) (h1 : y ≤ 2199) : Calls Try.prog 14 #[.int .i64 y, .int .i64 10] w fun e w' => e = .returned (.int .i64 31) ∧ Below w.heap.size w w' := by
 go_enter Try.func14, Try.ntmps14
 go_wp2
 go_ret
 exact ⟨rfl, (Below.refl _ _).alloc (Nat.le_refl _) _⟩
theorem days_11 (y : Int) (w : World) (h0 : 1900 ≤ y) (h1 : y ≤ 2199) : Calls Try.prog 14 #[.int .i64 y, .int .i64 11] w fun e w' => e = .returned (.int .i64 30) ∧ Below w.heap.size w w' := by
 go_enter Try.func14, Try.ntmps14
 go_wp2
 go_ret
 exact ⟨rfl, (Below.refl _ _).alloc (Nat.le_refl _) _⟩
theorem days_12 (y : Int) (w : World) (h0 : 1900 ≤ y) (h1 : y ≤ 2199) : Calls Try.prog 14 #[.int .i64 y, .int .i64 12] w fun e w' => e = .returned (.int .i64 31) ∧ Below w.heap.size w w' := by
 go_enter Try.func14, Try.ntmps14
 go_wp2
 go_ret
 exact ⟨rfl, (Below.refl _ _).alloc (Nat.le_refl _) _⟩
theorem days_any (y m : Int) (w : World) : Calls Try.prog 14 #[.int .i64 y, .int .i64 m] w fun e w' => e = .returned (.int .i64 (dys y m)) ∧ Below w.heap.size w w' := by
 cases h : inYM y m
 ·rw [dys_out h]; exact days_out y m w h
 ·rw [dys_in h]
  obtain ⟨a, b, c, d⟩ := inYM_iff.1 h
  clear h
  rcases twelve c d with rfl | rfl | rfl | rfl | rfl | rfl | rfl | rfl | rfl | rfl | rfl | rfl
  ·exact days_1 y w a b
  ·exact days_two y w a b
  ·exact days_3 y w a b
  ·exact days_4 y w a b
  ·exact days_5 y w a b
  ·exact days_6 y w a b
  ·exact days_7 y w a b
  ·exact days_8 y w a b
  ·exact days_9 y w a b
  ·exact days_10 y w a b
  ·exact days_11 y w a b
  ·exact days_12 y w a b
section
variable {k : IntKind} {t : TypeId} {w w' : World} {b o g B : Nat} {L : List Nat}
end
section
variable {k : IntKind} {t : TypeId} {w w' : World} {g B B' c : Nat} {A : Option Addr} {L : List Nat}
end
theorem dc_drew {B : Nat} {a w : World} (h : Below B a w) : Below B a w.drew := ⟨h.os, h.tape, h.output, h.size, h.block⟩
theorem below_more {W w w' : World} (h : Below W.heap.size W w) (hb : Below w.heap.size w w') : Below W.heap.size W w' := h.trans (hb.mono h.size)
open Go.RowKit

/- The tests of Of, as they show. -/
theorem dayB_no {y m d : Int} (h : dayB y m d = false) : d < 1 ∨ ¬ d < 1 ∧ dys y m < d := by
 have h2 : ¬ (1 ≤ d ∧ d ≤ dys y m) := fun e => by
  have h3 : dayB y m d = true := by unfold dayB; rw [decide_eq_true e.1, decide_eq_true e.2]; rfl
  rw [h3] at h; cases h
 omega
theorem dayB_yes {y m d : Int} (h : dayB y m d = true) : ¬ d < 1 ∧ ¬ dys y m < d := by
 unfold dayB at h
 rw [Bool.and_eq_true, decide_eq_true_eq, decide_eq_true_eq] at h
 omega
theorem of_no (y m d : Int) (w : World) (h : dayB y m d = false) : Calls Try.prog 12 #[.int .i64 y, .int .i64 m, .int .i64 d] w fun e w' => e = .returned (.tuple #[.int .i64 0, .int .i64 2]) ∧ Below w.heap.size w w' := by
 have hx := dayB_no h
 clear h
 have hB := Below.refl w.heap.size w
 rcases hx with h1 | ⟨h1, h2⟩
 ·go_enter Try.func12, Try.ntmps12
  go_wp2
  go_ret2
  exact ⟨rfl, hB⟩
 ·go_enter Try.func12, Try.ntmps12
  go_wp2_with (go_at_call 14; refine (days_any _ _ _).mono ?_; rintro e w' ⟨rfl, hb⟩; replace hB := below_more hB hb; clear hb)
  go_ret2
  exact ⟨rfl, hB⟩
theorem of_yes (y m d : Int) (w : World) (h : dayB y m d = true) : Calls Try.prog 12 #[.int .i64 y, .int .i64 m, .int .i64 d] w fun e w' => e = .returned (.tuple #[.int .i64 (dno y m d), .int .i64 0]) ∧ Below w.heap.size w w' := by
 have hc := dayB_iff.1 h
 obtain ⟨h1, h2⟩ := dayB_yes h
 obtain ⟨y0, y1, m0, m1, d0, d1, -⟩ := hc
 clear h
 have hB := Below.refl w.heap.size w
 have hn := nyr_bd (y := y) (by omega) (by omega)
 have hd := mdy_bd y m
 go_enter Try.func12, Try.ntmps12
 go_wp2_with (first | (go_at_call 14; refine (days_any _ _ _).mono ?_; rintro e w' ⟨rfl, hb⟩; replace hB := below_more hB hb; clear hb) | (go_at_call 28; refine (newYear_any _ _ (by omega) (by omega)).mono ?_; rintro e w' ⟨rfl, rfl⟩))
 go_loopw [8, 9] (fun v1 v2 w1 => ∃ b : Int, 1 ≤ b ∧ b ≤ m ∧ v2 = .int .i64 b ∧ v1 = .int .i64 (nyr y + d - 1 + mon y b) ∧ Below w.heap.size w w1) (fun v1 v2 w1 => (m - intOf v2).toNat)
 case atStart => exact ⟨1, by omega, by omega, rfl, by rw [mon_1]; go_num, hB⟩
 case round =>
  obtain ⟨b, b0, b1, rfl, rfl, hB1⟩ := hrel
  have hm := mon_bd (y := y) (m := b) (by omega) (by omega)
  have hl := lpI_01 y
  by_cases hlt : b < m
  ·have hs := mon_succ y b (by omega) (by omega)
   have hb0 := mdy_bd y b
   have hi : inYM y b = true := inYM_iff.2 ⟨by omega, by omega, by omega, by omega⟩
   have hy := fun w => days_any y b w
   rw [dys_in hi] at hy
   have HY := Lib.hid hy
   have HS := Lib.hid hs
   clear hy hs hi
   go_wp2_with (go_at_call 14; refine (HY.out _).mono ?_; rintro e w' ⟨rfl, hb⟩; replace hB1 := below_more hB1 hb; clear hb)
   go_roundw
   case rel => exact ⟨b + 1, by omega, by omega, rfl, by rw [HS.out]; go_num, hB1⟩
   case measure => simp [intOf]; omega
  ·obtain rfl : b = m := by omega
   go_wp2
   go_ret2
   exact ⟨by unfold dno; go_num, hB1⟩
theorem dtof_any (y m d : Int) (w : World) : Calls Try.prog 12 #[.int .i64 y, .int .i64 m, .int .i64 d] w fun e w' => e = .returned (.tuple #[.int .i64 (ofN y m d), .int .i64 (ofE y m d)]) ∧ Below w.heap.size w w' := by
 unfold ofN ofE
 cases h : dayB y m d
 ·exact of_no y m d w h
 ·exact of_yes y m d w h
def wkN (n : Int) : Int := if vdB n then (n + 25567) % 7 else 0
def wkE (n : Int) : Int := if vdB n then 0 else 2
theorem wk_any (n : Int) (w : World) : Calls Try.prog 24 #[.int .i64 n] w fun e w' => e = .returned (.tuple #[.int .i64 (wkN n), .int .i64 (wkE n)]) ∧ w = w' := by
 have hv := fun w => vd_any n w
 unfold wkN wkE
 cases h : vdB n
 ·rw [h] at hv
  have HV := Lib.hid hv
  clear hv h
  go_enter Try.func24, Try.ntmps24
  go_wp2_with (go_at_call 18; refine (HV.out _).mono ?_; rintro e w' ⟨rfl, rfl⟩)
  go_ret2
  exact ⟨rfl, rfl⟩
 ·rw [h] at hv
  obtain ⟨h0, h1⟩ := vdB_iff.1 h
  have HV := Lib.hid hv
  clear hv h
  go_enter Try.func24, Try.ntmps24
  go_wp2_with (go_at_call 18; refine (HV.out _).mono ?_; rintro e w' ⟨rfl, rfl⟩)
  go_ret2
  exact ⟨rfl, rfl⟩
open Go.Lib (decDigits)
def numOf (l : List UInt8) : Nat := l.foldl (fun n c => 10 * n + (c.toNat - 48)) 0
theorem numOf_snoc (l : List UInt8) (c : UInt8) : numOf (l ++ [c]) = 10 * numOf l + (c.toNat - 48) := by simp [numOf]
def isDig (c : UInt8) : Bool := decide (48 ≤ c.toNat) && decide (c.toNat ≤ 57)
theorem isDig_iff {c : UInt8} : isDig c = true ↔ 48 ≤ c.toNat ∧ c.toNat ≤ 57 := by simp [isDig]
def allD (t : ByteArray) : Bool := t.data.toList.all isDig
def numT (t : ByteArray) : Nat := numOf t.data.toList
theorem tl_get (s : ByteArray) (k : Nat) (h : k < s.size) : s.data.toList[k]'(by simpa using h) = s[k] := by simp; rfl
theorem allD_no {s : ByteArray} {k : Nat} (h : k < s.size) (hd : isDig (s[k]'h) = false) : allD s = false := by
 cases ha : allD s
 ·rfl
 ·unfold allD at ha
  rw [List.all_eq_true] at ha
  have := ha _ (List.getElem_mem (l := s.data.toList) (n := k) (by simpa using h))
  rw [tl_get s k h, hd] at this
  cases this
theorem allD_yes {s : ByteArray} (h : ∀ j, (h2 : j < s.size) → isDig (s[j]'h2) = true) : allD s = true := by
 unfold allD
 rw [List.all_eq_true]
 intro c hc
 obtain ⟨j, hj, rfl⟩ := List.getElem_of_mem hc
 rw [tl_get s j (by simpa using hj)]
 exact h j (by simpa using hj)
theorem allD_at {s : ByteArray} (h : allD s = true) {k : Nat} (hk : k < s.size) : isDig (s[k]'hk) = true := by
 cases hd : isDig (s[k]'hk)
 ·rw [allD_no hk hd] at h; cases h
 ·rfl
theorem areDig_any (t : ByteArray) (w : World) (hs : t.size ≤ 1000) : Calls Try.prog 37 #[.string t] w fun e w' => e = .returned (.bool (allD t)) ∧ w = w' := by
 go_enter Try.func37, Try.ntmps37
 go_wp2_with fail
 go_loop [6] (fun v => ∃ i : Nat, i ≤ t.size ∧ v = .int .i64 i ∧ Hid (∀ j, j < i → (h2 : j < t.size) → isDig (t[j]'h2) = true)) (fun v => t.size - (intOf v).toNat)
 case atStart => exact ⟨0, by omega, rfl, fun j h => absurd h (by omega)⟩
 case round =>
  obtain ⟨i, hi, rfl, hd⟩ := hrel
  by_cases hlt : i < t.size
  ·have hlt' : (i : Int) < (t.size : Int) := by omega
   obtain ⟨b, hb⟩ : ∃ b, t[i]'hlt = b := ⟨_, rfl⟩
   have hcb : ∀ h, t[i]'h = b := fun h => hb
   have HB := Lib.hid hb
   clear hb
   by_cases hb1 : b.toNat < 48
   ·have hq : (b.toNat : Int) < 48 := by omega
    have he : Hid (allD t = false) := Lib.hid (allD_no hlt (by rw [HB.out]; simp [isDig]; omega))
    clear hb1
    go_wp2_with fail
    go_ret
    exact ⟨by rw [he.out]; rfl, rfl⟩
   ·have hq : decide ((b.toNat : Int) < 48) = false := decide_eq_false (by omega)
    by_cases hb2 : 57 < b.toNat
    ·have hq2 : 57 < (b.toNat : Int) := by omega
     have he : Hid (allD t = false) := Lib.hid (allD_no hlt (by rw [HB.out]; simp [isDig]; omega))
     clear hb1 hb2
     go_wp2_with fail
     go_ret
     exact ⟨by rw [he.out]; rfl, rfl⟩
    ·have hq2 : decide (57 < (b.toNat : Int)) = false := decide_eq_false (by omega)
     have hdb : Hid (isDig b = true) := Lib.hid (isDig_iff.2 ⟨by omega, by omega⟩)
     clear hb1 hb2
     go_wp2_with fail
     go_round
     case rel => exact ⟨i + 1, by omega, by go_num, fun j hj h2 => by
      rcases Nat.lt_succ_iff_lt_or_eq.1 hj with h | rfl
      ·exact hd.out j h h2
      ·rw [HB.out]; exact hdb.out⟩
     case measure => simp [intOf]; omega
  ·have hge : decide ((i : Int) < (t.size : Int)) = false := by simp; omega
   have he : Hid (allD t = true) := Lib.hid (allD_yes fun j h2 => hd.out j (by omega) h2)
   go_wp2_with fail
   go_ret
   exact ⟨by rw [he.out]; rfl, rfl⟩
/- The number of a text of digits. -/
theorem numT_take (t : ByteArray) (k : Nat) (h : k < t.size) : numOf (t.data.toList.take (k + 1)) = 10 * numOf (t.data.toList.take k) + ((t[k]'h).toNat - 48) := by
 rw [List.take_succ_eq_append_getElem (by simpa using h), numOf_snoc, tl_get t k h]
theorem numT_bd {l : List UInt8} (h : ∀ c ∈ l, isDig c = true) (n : Nat) (hl : l.length ≤ n) : numOf l + 1 ≤ 10 ^ n := by
 induction n generalizing l with
 | zero =>
  obtain rfl := List.eq_nil_of_length_eq_zero (Nat.le_zero.1 hl)
  decide
 | succ n ih =>
  rcases List.eq_nil_or_concat l with rfl | ⟨i, c, he⟩
  ·have : 0 < 10 ^ (n + 1) := Nat.pow_pos (by omega)
   show 0 + 1 ≤ _
   omega
  ·rw [List.concat_eq_append] at he
   subst he
   rw [numOf_snoc]
   have h1 := ih (l := i) (fun x hx => h x (by simp [hx])) (by simp at hl; omega)
   have h2 := isDig_iff.1 (h c (by simp))
   rw [Nat.pow_succ]
   omega
theorem numT_4 {t : ByteArray} (h : allD t = true) (hs : t.size ≤ 4) (k : Nat) : numOf (t.data.toList.take k) ≤ 9999 := by
 have := numT_bd (l := t.data.toList.take k) (fun c hc => by
  unfold allD at h
  rw [List.all_eq_true] at h
  exact h c (List.mem_of_mem_take hc)) 4 (by simp; omega)
 omega
theorem number_any (t : ByteArray) (w : World) (hs : t.size ≤ 4) (hd : allD t = true) : Calls Try.prog 33 #[.string t] w fun e w' => e = .returned (.int .i64 (numT t : Int)) ∧ w = w' := by
 have HD := Lib.hid hd
 clear hd
 go_enter Try.func33, Try.ntmps33
 go_wp2_with fail
 go_loop [3, 7] (fun v1 v2 => ∃ i : Nat, i ≤ t.size ∧ v2 = .int .i64 i ∧ v1 = .int .i64 (numOf (t.data.toList.take i) : Nat)) (fun v1 v2 => t.size - (intOf v2).toNat)
 case atStart => exact ⟨0, by omega, rfl, rfl⟩
 case round =>
  obtain ⟨i, hi, rfl, rfl⟩ := hrel
  have hb0 := numT_4 HD.out hs i
  by_cases hlt : i < t.size
  ·have hlt' : (i : Int) < (t.size : Int) := by omega
   have hs1 := Lib.hid (numT_take t i hlt)
   have hdi := isDig_iff.1 (allD_at HD.out hlt)
   generalize numOf (t.data.toList.take i) = N at *
   obtain ⟨b, hb⟩ : ∃ b, t[i]'hlt = b := ⟨_, rfl⟩
   rw [hb] at hs1 hdi
   have hcb : ∀ h, t[i]'h = b := fun h => hb
   clear hb
   obtain ⟨hd1, hd2⟩ := hdi
   have hd3 : 48 ≤ (b.toNat : Int) := by omega
   have hd4 : (b.toNat : Int) ≤ 57 := by omega
   go_wp2_with fail
   go_round
   case rel => exact ⟨i + 1, by omega, by go_num, by rw [hs1.out]; go_num⟩
   case measure => simp [intOf]; omega
  ·have hge : decide ((i : Int) < (t.size : Int)) = false := by simp; omega
   have he : Hid (t.data.toList.take i = t.data.toList) := Lib.hid (List.take_of_length_le (by simp; omega))
   go_wp2_with fail
   go_ret
   exact ⟨by rw [he.out]; rfl, rfl⟩
/- The number of the reference: -1 for a text that is not of digits. -/
open Go Go.RowKit
structure Fact where
 p : Value → World → Prop
 st : ∀ v w w', Below w.heap.size w w' → p v w → p v w'
def Fact.triv : Fact := ⟨fun _ _ => True, fun _ _ _ _ _ => trivial⟩
def look : List (Nat × Fact) → Nat → Fact
 | [], _ => Fact.triv
 | (k, f) :: rest, d => bif Nat.beq k d then f else look rest d
def factOf (FL : List (Nat × Fact)) (dst : Option Nat) (v : Value) (w : World) : Prop := match dst with
 | none => True
 | some d => (look FL d).p v w
def fillL (u : Nat → Value) : List Nat → Array Value → Array Value
 | [], t => t
 | d :: ds, t => fillL u ds (t.setIfInBounds d (u d))
def upd (u : Nat → Value) (d : Option Nat) (v : Value) (n : Nat) : Value := match d with
 | none => u n
 | some d => if n = d then v else u n
theorem fillL_size (u : Nat → Value) (ds : List Nat) : ∀ t : Array Value, (fillL u ds t).size = t.size := by
 induction ds with
 | nil => intro t; rfl
 | cons d ds ih => intro t; rw [fillL, ih]; simp
theorem fillL_get (u : Nat → Value) (ds : List Nat) : ∀ (t : Array Value) (n : Nat), (fillL u ds t)[n]? = if n < t.size then (if n ∈ ds then some (u n) else t[n]?) else none := by
 induction ds with
 | nil => intro t n; by_cases h : n < t.size <;> simp [fillL, h]
 | cons d ds ih =>
  intro t n
  rw [fillL, ih]
  by_cases h : n < t.size
  ·simp only [Array.size_setIfInBounds, h, if_true, List.mem_cons]
   by_cases h1 : n ∈ ds
   ·simp [h1]
   ·by_cases h2 : n = d
    ·subst h2; simp [h1, h]
    ·simp only [h1, h2, if_false, or_self]; rw [Array.getElem?_setIfInBounds_ne (Ne.symm h2)]
  ·simp [h]
theorem fillL_upd (u : Nat → Value) (ds : List Nat) (t : Array Value) (d : Nat) (v : Value) (hd : d ∈ ds) : (fillL u ds t).setIfInBounds d v = fillL (upd u (some d) v) ds t := by
 apply Array.ext_getElem?
 intro n
 rw [Array.getElem?_setIfInBounds, fillL_get, fillL_get, fillL_size]
 by_cases h : n < t.size
 ·by_cases h2 : d = n
  ·subst h2; simp [h, hd, upd]
  ·simp only [h, h2, if_true, if_false]
   by_cases h3 : n ∈ ds
   ·simp [h3, upd, Ne.symm h2]
   ·simp [h3]
 ·simp only [h, if_false]
  by_cases h2 : d = n
  ·subst h2; simp [h]
  ·simp [h2]
theorem fillL_self (ds : List Nat) (t : Array Value) : fillL (fun d => t.getD d undef) ds t = t := by
 apply Array.ext_getElem?
 intro n
 rw [fillL_get]
 by_cases h : n < t.size
 ·simp [h]
 ·simp [h]
theorem filter_less {p q : Nat → Bool} {i : Nat} (hpi : p i = true) (hqi : q i = false) (h : ∀ j, q j = true → p j = true) : ∀ l : List Nat, i ∈ l → (l.filter q).length < (l.filter p).length := by
 have hle : ∀ l : List Nat, (l.filter q).length ≤ (l.filter p).length := by
  intro l
  induction l with
  | nil => simp
  | cons x l ih =>
   rw [List.filter_cons, List.filter_cons]
   by_cases hq : q x = true
   ·simp [hq, h x hq]; exact ih
   ·by_cases hp : p x = true <;> simp [hq, hp] <;> omega
 intro l hl
 induction l with
 | nil => cases hl
 | cons x l ih =>
  rw [List.filter_cons, List.filter_cons]
  rcases List.mem_cons.1 hl with rfl | hl
  ·simp [hpi, hqi]; have := hle l; omega
  ·have := ih hl
   by_cases hq : q x = true
   ·simp [hq, h x hq]; exact this
   ·by_cases hp : p x = true <;> simp [hq, hp] <;> omega
section
variable {P : Program} {ops : Array Oper} {Q : Exit → Act → World → Prop} {FL : List (Nat × Fact)} {J : World → Prop} {t0 : Array Value} {df : List Deferred} {ds : List Nat}
theorem put_fill (u : Nat → Value) (o : Oper) (v : Value) (hd : ∀ d, o.dst = some d → d ∈ ds) : (⟨fillL u ds t0, df⟩ : Act).put o.dst v = ⟨fillL (upd u o.dst v) ds t0, df⟩ := by
 cases h : o.dst with
 | none => rfl
 | some d =>
  show Act.mk ((fillL u ds t0).setIfInBounds d v) df = _
  rw [fillL_upd _ _ _ _ _ (hd d h)]
theorem none_listed (n j : Nat) : (Array.replicate n false).getD j false = false := by
 by_cases h : j < n <;> simp [h]
end
open Go Go.RowKit
def AS.NoInt (w : World) (b : Nat) : Prop := ∀ j k n, w.cell? ⟨b, j, none⟩ ≠ some (.int k n)
open AS (NoInt)
def Leaf (x : Value) : Prop := ∀ k n, x ≠ .int k n
structure Bx (t : TypeId) (w : World) (g : Nat) (vs : List Value) : Prop where
 blk : w.heap[g]? = some (.cells vs.toArray t (0, 0))
 leaf : ∀ v ∈ vs, Leaf v
section
variable {t : TypeId} {w w' : World} {g : Nat} {vs : List Value}
theorem Bx.lt (h : Bx t w g vs) : g < w.heap.size := by
 rcases Nat.lt_or_ge g w.heap.size with hlt | hge
 ·exact hlt
 ·have := h.blk; rw [Array.getElem?_eq_none hge] at this; cases this
theorem Bx.up (h : Bx t w g vs) (hb : Below w.heap.size w w') : Bx t w' g vs := ⟨(hb.block g h.lt).trans h.blk, h.leaf⟩
end
end Go.Proofs.Yteejefeociclbaa
namespace Go.Proofs.Yteejefeociclbaa.AS
open Go Go.RowKit
open Go.Proofs.Yteejefeociclbaa (fillL upd fillL_size fillL_get fillL_upd fillL_self filter_less none_listed put_fill)
structure Keep (w w' : World) : Prop where
 size : w.heap.size ≤ w'.heap.size
 blk : ∀ i, i < w.heap.size → (∃ j k n, w.cell? ⟨i, j, none⟩ = some (.int k n)) → w'.heap[i]? = w.heap[i]?
 box : ∀ (t : TypeId) (g : Nat) (vs : List Value), 2 ≤ vs.length → Bx t w g vs → ∃ vs' : List Value, vs'.length = vs.length ∧ Bx t w' g vs'
theorem Keep.ofBelow {w w' : World} (h : Below w.heap.size w w') : Keep w w' := ⟨h.size, fun i hi _ => h.block i hi, fun _ _ vs _ hb => ⟨vs, rfl, hb.up h⟩⟩
structure Fact where
 p : Value → World → Prop
 st : ∀ v w w', Keep w w' → p v w → p v w'
def Fact.triv : Fact := ⟨fun _ _ => True, fun _ _ _ _ _ => trivial⟩
def Fact.is (x : Value) : Fact := ⟨fun v _ => v = x, fun _ _ _ _ h => h⟩
def look : List (Nat × Fact) → Nat → Fact
 | [], _ => Fact.triv
 | (k, f) :: rest, d => bif Nat.beq k d then f else look rest d
def temps (FL : List (Nat × Fact)) : List Nat := FL.map (·.1)
def factOf (FL : List (Nat × Fact)) (dst : Option Nat) (v : Value) (w : World) : Prop := match dst with
 | none => True
 | some d => (look FL d).p v w
def Facts (FL : List (Nat × Fact)) (u : Nat → Value) (w : World) : List Nat → Prop
 | [] => True
 | d :: ds => (look FL d).p (u d) w ∧ Facts FL u w ds
theorem facts_mk {FL : List (Nat × Fact)} {u : Nat → Value} {w : World} {ds : List Nat} (h : ∀ d ∈ ds, (look FL d).p (u d) w) : Facts FL u w ds := by
 induction ds with
 | nil => trivial
 | cons d ds ih => exact ⟨h d (List.mem_cons_self ..), ih fun e he => h e (List.mem_cons_of_mem _ he)⟩
theorem facts_get {FL : List (Nat × Fact)} {u : Nat → Value} {w : World} {ds : List Nat} (h : Facts FL u w ds) (d : Nat) (hd : d ∈ ds) : (look FL d).p (u d) w := by
 induction ds with
 | nil => cases hd
 | cons e ds ih =>
  rcases List.mem_cons.1 hd with rfl | hd
  ·exact h.1
  ·exact ih h.2 hd
def edgesOk (ops : Array Oper) : Bool := (List.range ops.size).all fun i => match ops[i]? with
 | none => true
 | some o => o.after.all fun e => !Region.binds .any e || decide (e.on < i)
def needsOk (ops : Array Oper) (pt : List (List Nat)) (ds : List Nat) : Bool :=
 (List.range ops.size).all fun i => match ops[i]? with
  | none => true
  | some o => (match o.dst with | some d => ds.contains d | none => true) &&
   (pt.getD i []).all fun d => o.after.any fun e => Region.binds .any e && ((match ops[e.on]? with | some o' => o'.dst == some d | none => false) || (pt.getD e.on []).contains d)
def onceOk (ops : Array Oper) : Bool := (List.range ops.size).all fun i => (List.range ops.size).all fun j => match ops[i]?, ops[j]? with
 | some o, some o' => Nat.beq i j || (match o.dst, o'.dst with | some d, some d' => !Nat.beq d d' | _, _ => true)
 | _, _ => true
def storesOk (ops : Array Oper) (pt : List (List Nat)) (st : List Nat) (js : List (List Nat)) : Bool :=
 (List.range st.length).all fun m => decide (st.getD m 0 < ops.size) && (match ops[st.getD m 0]? with | some o => o.dst == none | none => false) &&
  (Nat.beq m 0 || Region.waitsFor .any ops (st.getD m 0) (st.getD (m - 1) 0)) && (js.getD (m + 1) []).all fun d => (pt.getD (st.getD m 0) []).contains d || (js.getD m []).contains d
def waits2 (ops : Array Oper) (s i : Nat) : Bool := Region.waitsFor .any ops s i || (List.range ops.size).any fun j => Region.waitsFor .any ops s j && Region.waitsFor .any ops j i
def limOk (ops : Array Oper) (st lm : List Nat) : Bool :=
 (List.range ops.size).all fun i => Nat.beq (lm.getD i st.length) st.length || waits2 ops (st.getD (lm.getD i st.length) ops.size) i
def allWritten (ops : Array Oper) (ds : List Nat) : Bool := ds.all fun d => ops.any fun o => o.dst == some d
def allocsOk (ops : Array Oper) (al st : List Nat) : Bool := al.all fun d => st.all fun s => (List.range ops.size).any fun i => (match ops[i]? with | some o => o.dst == some d | none => false) && waits2 ops s i
def chk (al : List Nat) (ops : Array Oper) (pt : List (List Nat)) (ds st : List Nat) (js : List (List Nat)) (lm : List Nat) : Bool :=
 allocsOk ops al st && al.all ds.contains && edgesOk ops && needsOk ops pt ds && onceOk ops && storesOk ops pt st js && limOk ops st lm && allWritten ops ds && (js.getD 0 []).isEmpty
section
variable {P : Program} {ops : Array Oper} {Q : Exit → Act → World → Prop} {FL : List (Nat × Fact)} {J : Nat → List Value → World → Prop} {t0 : Array Value} {df : List Deferred} {ds : List Nat}
 {st lm al : List Nat} {js : List (List Nat)} {pt : List (List Nat)}
def aOk (al : List Nat) (dst : Option Nat) (v : Value) (w w' : World) : Prop := match dst with
 | some d => bif al.contains d then v = .pointer (some ⟨w.heap.size, 0, none⟩) ∧ w.heap.size < w'.heap.size else True
 | none => True
def Apart (al : List Nat) (u : Nat → Value) : Prop := ∀ d ∈ al, ∀ d' ∈ al, d ≠ d' → u d ≠ u d'
def StepOk (al : List Nat) (P : Program) (ops : Array Oper) (Q : Exit → Act → World → Prop) (FL : List (Nat × Fact)) (J : Nat → List Value → World → Prop) (js : List (List Nat)) (fr : (Nat → Value) → Array Value) (df : List Deferred) (o : Oper) (need : List Nat) (lim : Nat) : Prop :=
 ∀ (k : Nat) (u : Nat → Value) (w : World), k ≤ lim → J k ((js.getD k []).map u) w → Facts FL u w need → ∀ K : Act → World → Prop, Shut (∀ v w', Below w.heap.size w w' → factOf FL o.dst v w' → aOk al o.dst v w w' → K ((⟨fr u, df⟩ : Act).put o.dst v) w') →
  if Region.wanted o (yielded ops (fr u)) = true then Oper.wp P o ⟨fr u, df⟩ w K Q else K ((⟨fr u, df⟩ : Act).put o.dst undef) w
def StoreOk (al : List Nat) (P : Program) (ops : Array Oper) (Q : Exit → Act → World → Prop) (FL : List (Nat × Fact)) (J : Nat → List Value → World → Prop) (js : List (List Nat)) (fr : (Nat → Value) → Array Value) (df : List Deferred) (o : Oper) (need : List Nat) (k : Nat) : Prop :=
 ∀ (u : Nat → Value) (w : World), J k ((js.getD k []).map u) w → Apart al u → Facts FL u w need → ∀ K : Act → World → Prop, Shut (∀ v w', J (k + 1) ((js.getD (k + 1) []).map u) w' → Keep w w' → K ((⟨fr u, df⟩ : Act).put o.dst v) w') →
  if Region.wanted o (yielded ops (fr u)) = true then Oper.wp P o ⟨fr u, df⟩ w K Q else K ((⟨fr u, df⟩ : Act).put o.dst undef) w
def StepsOk (al : List Nat) (P : Program) (ops : Array Oper) (Q : Exit → Act → World → Prop) (FL : List (Nat × Fact)) (J : Nat → List Value → World → Prop) (js : List (List Nat)) (fr : (Nat → Value) → Array Value) (df : List Deferred) (pt : List (List Nat)) (st lm : List Nat) : List Oper → Nat → Prop
 | [], _ => True
 | o :: rest, i => (match st.idxOf? i with
   | some k => StoreOk al P ops Q FL J js fr df o (pt.getD i []) k
   | none => StepOk al P ops Q FL J js fr df o (pt.getD i []) (lm.getD i st.length)) ∧ StepsOk al P ops Q FL J js fr df pt st lm rest (i + 1)
theorem StepsOk.nil {fr : (Nat → Value) → Array Value} {i : Nat} : StepsOk al P ops Q FL J js fr df pt st lm [] i := trivial
theorem sc {fr : (Nat → Value) → Array Value} {o : Oper} {rest : List Oper} {i : Nat} {need : List Nat} {lim : Nat} (h0 : st.idxOf? i = none) (h1 : pt.getD i [] = need) (h2 : lm.getD i st.length = lim)
  (h : StepOk al P ops Q FL J js fr df o need lim) (hs : StepsOk al P ops Q FL J js fr df pt st lm rest (i + 1)) : StepsOk al P ops Q FL J js fr df pt st lm (o :: rest) i := ⟨by rw [h0, h1, h2]; exact h, hs⟩
theorem steps_at {fr : (Nat → Value) → Array Value} : ∀ (l : List Oper) (i0 : Nat), StepsOk al P ops Q FL J js fr df pt st lm l i0 → ∀ i o, l[i]? = some o → (match st.idxOf? (i0 + i) with
      | some k => StoreOk al P ops Q FL J js fr df o (pt.getD (i0 + i) []) k
      | none => StepOk al P ops Q FL J js fr df o (pt.getD (i0 + i) []) (lm.getD (i0 + i) st.length)) := by
  intro l
  induction l with
  | nil => intro i0 _ i o h; simp at h
  | cons x l ih =>
    intro i0 hs i o h
    cases i with
    | zero => simp at h; subst h; exact hs.1
    | succ i =>
      have := ih (i0 + 1) hs.2 i o (by simpa using h)
      rwa [show i0 + 1 + i = i0 + (i + 1) by omega] at this
def Written (ops : Array Oper) (listed : Array Bool) (d : Nat) : Prop := ∃ j o', listed.getD j false = true ∧ ops[j]? = some o' ∧ o'.dst = some d
structure Inv (al : List Nat) (ops : Array Oper) (FL : List (Nat × Fact)) (J : Nat → List Value → World → Prop) (js : List (List Nat)) (t0 : Array Value) (df : List Deferred) (ds : List Nat) (pt : List (List Nat)) (st : List Nat) (listed : Array Bool) (a : Act) (w : World) : Prop where
 fr : ∃ k u, a = ⟨fillL u ds t0, df⟩ ∧ (∀ d, Written ops listed d → (look FL d).p (u d) w) ∧ J k ((js.getD k []).map u) w ∧ k ≤ st.length ∧ (∀ m, m < k → listed.getD (st.getD m 0) false = true) ∧
  (∀ m, k ≤ m → m < st.length → listed.getD (st.getD m 0) false = false) ∧ (∀ d ∈ js.getD k [], Written ops listed d) ∧ (∀ d ∈ al, Written ops listed d → ∃ g, u d = .pointer (some ⟨g, 0, none⟩) ∧ g < w.heap.size) ∧
  (∀ d ∈ al, ∀ d' ∈ al, d ≠ d' → Written ops listed d → Written ops listed d' → u d ≠ u d')
 cl : ∀ i, listed.getD i false = true → ∀ d ∈ pt.getD i [], Written ops listed d
 cs : ∀ j oj, ops[j]? = some oj → listed.getD j false = true → ∀ e ∈ oj.after, Region.binds .any e = true → listed.getD e.on false = true
 sz : listed.size = ops.size
theorem Written.more {listed : Array Bool} {d i : Nat} (h : Written ops listed d) : Written ops (listed.setIfInBounds i true) d := by
 obtain ⟨j, o', h1, h2, h3⟩ := h
 exact ⟨j, o', getD_set_true h1, h2, h3⟩
theorem getD_flag {listed : Array Bool} {i : Nat} (h : i < listed.size) : listed.getD i true = listed.getD i false := by simp [h]
structure Chk (al : List Nat) (ops : Array Oper) (pt : List (List Nat)) (ds st : List Nat) (js : List (List Nat)) (lm : List Nat) : Prop where
 edge : ∀ (i : Nat) (o : Oper), ops[i]? = some o → ∀ e ∈ o.after, Region.binds .any e = true → e.on < i
 dst : ∀ (i : Nat) (o : Oper), ops[i]? = some o → ∀ d, o.dst = some d → d ∈ ds
 need : ∀ (i : Nat) (o : Oper), ops[i]? = some o → ∀ d ∈ pt.getD i [], ∃ e ∈ o.after, Region.binds .any e = true ∧ ((∃ o' : Oper, ops[e.on]? = some o' ∧ o'.dst = some d) ∨ d ∈ pt.getD e.on [])
 once : ∀ (i j : Nat) (o o' : Oper) (d : Nat), ops[i]? = some o → ops[j]? = some o' → o.dst = some d → o'.dst = some d → i = j
 slt : ∀ m, m < st.length → st.getD m 0 < ops.size
 sdst : ∀ m, m < st.length → ∀ o : Oper, ops[st.getD m 0]? = some o → o.dst = none
 schain : ∀ m, 0 < m → m < st.length → Region.waitsFor .any ops (st.getD m 0) (st.getD (m - 1) 0) = true
 sjs : ∀ m, m < st.length → ∀ d ∈ js.getD (m + 1) [], d ∈ pt.getD (st.getD m 0) [] ∨ d ∈ js.getD m []
 lim : ∀ i, i < ops.size → lm.getD i st.length = st.length ∨ waits2 ops (st.getD (lm.getD i st.length) ops.size) i = true
 wr : ∀ d ∈ ds, ∃ (i : Nat) (o : Oper), ops[i]? = some o ∧ o.dst = some d
 js0 : js.getD 0 [] = []
 alw : ∀ d ∈ al, ∀ m, m < st.length → ∃ (i : Nat) (o : Oper), ops[i]? = some o ∧ o.dst = some d ∧ waits2 ops (st.getD m 0) i = true
 ald : ∀ d ∈ al, d ∈ ds
theorem chk_spec (h : chk al ops pt ds st js lm = true) : Chk al ops pt ds st js lm := by
 unfold chk at h
 simp only [Bool.and_eq_true] at h
 obtain ⟨⟨⟨⟨⟨⟨⟨⟨h8, h9⟩, h1⟩, h2⟩, h3⟩, h4⟩, h5⟩, h6⟩, h7⟩ := h
 have lt : ∀ (i : Nat) (o : Oper), ops[i]? = some o → i ∈ List.range ops.size := fun i o ho => List.mem_range.2 (Array.getElem?_eq_some_iff.1 ho).1
 constructor
 ·intro i o ho e he hb
  have h := List.all_eq_true.1 h1 i (lt i o ho)
  rw [ho] at h
  dsimp only at h
  rw [Array.all_eq_true_iff_forall_mem] at h
  have h := h e he
  rw [hb] at h
  simpa using h
 ·intro i o ho d hd
  have h := List.all_eq_true.1 h2 i (lt i o ho)
  rw [ho] at h
  dsimp only at h
  rw [hd] at h
  simp only [Bool.and_eq_true] at h
  simpa using h.1
 ·intro i o ho d hd
  have h := List.all_eq_true.1 h2 i (lt i o ho)
  rw [ho] at h
  simp only [Bool.and_eq_true] at h
  have h := List.all_eq_true.1 h.2 d hd
  rw [Array.any_eq_true] at h
  obtain ⟨k, hk, h⟩ := h
  rw [Bool.and_eq_true, Bool.or_eq_true] at h
  refine ⟨o.after[k], Array.getElem_mem _, h.1, ?_⟩
  rcases h.2 with h4 | h4
  ·left
   cases h5 : ops[(o.after[k]).on]? with
   | none => rw [h5] at h4; cases h4
   | some o' => rw [h5] at h4; exact ⟨o', rfl, by simpa using h4⟩
  ·right; simpa using h4
 ·intro i j o o' d ho ho' hd hd'
  have h := List.all_eq_true.1 (List.all_eq_true.1 h3 i (lt i o ho)) j (lt j o' ho')
  rw [ho, ho'] at h
  dsimp only at h
  rw [hd, hd'] at h
  simpa using h
 ·intro m hm
  have h := List.all_eq_true.1 h4 m (List.mem_range.2 hm)
  simp only [Bool.and_eq_true, decide_eq_true_eq] at h
  exact h.1.1.1
 ·intro m hm o ho
  have h := List.all_eq_true.1 h4 m (List.mem_range.2 hm)
  simp only [Bool.and_eq_true, decide_eq_true_eq] at h
  have h := h.1.1.2
  rw [ho] at h
  simpa using h
 ·intro m h0 hm
  have h := List.all_eq_true.1 h4 m (List.mem_range.2 hm)
  simp only [Bool.and_eq_true, decide_eq_true_eq, Bool.or_eq_true, Nat.beq_eq] at h
  rcases h.1.2 with h | h
  ·omega
  ·exact h
 ·intro m hm d hd
  have h := List.all_eq_true.1 h4 m (List.mem_range.2 hm)
  simp only [Bool.and_eq_true] at h
  have h := List.all_eq_true.1 h.2 d hd
  simpa using h
 ·intro i hi
  have h := List.all_eq_true.1 h5 i (List.mem_range.2 hi)
  simp only [Bool.or_eq_true, Nat.beq_eq] at h
  exact h
 ·intro d hd
  have h := List.all_eq_true.1 h6 d hd
  rw [Array.any_eq_true] at h
  obtain ⟨k, hk, h⟩ := h
  exact ⟨k, ops[k], by simp [hk], by simpa using h⟩
 ·simpa using h7
 ·intro d hd m hm
  have h := List.all_eq_true.1 (List.all_eq_true.1 h8 d hd) (st.getD m 0) (by simp [hm])
  obtain ⟨i, hi, h⟩ := List.any_eq_true.1 h
  rw [Bool.and_eq_true] at h
  cases ho : ops[i]? with
  | none => rw [ho] at h; cases h.1
  | some o => rw [ho] at h; exact ⟨i, o, ho, by simpa using h.1, h.2⟩
 ·intro d hd
  have h := List.all_eq_true.1 h9 d hd
  simpa using h
theorem inv_step (hc : Chk al ops pt ds st js lm) (hst : ∀ k l w w', Below w.heap.size w w' → J k l w → J k l w') (hs : StepsOk al P ops Q FL J js (fun u => fillL u ds t0) df pt st lm ops.toList 0) {listed : Array Bool} {a : Act} {w : World}
    (hI : Inv al ops FL J js t0 df ds pt st listed a w) {i : Nat} (hi : i ∈ Region.ready .any ops listed) :
    wpOp P ops Q i (Inv al ops FL J js t0 df ds pt st (listed.setIfInBounds i true)) a w := by
  obtain ⟨h0, o, ho, hall⟩ := mem_ready.1 hi
  have hlt : i < ops.size := (Array.getElem?_eq_some_iff.1 ho).1
  have hil : i < listed.size := by rw [hI.sz]; exact hlt
  have hun : listed.getD i false = false := by rw [← getD_flag hil]; exact h0
  obtain ⟨k, u, rfl, hfac, hJ, hk, hk1, hk2, hk3, hk4, hk5⟩ := hI.fr
  have hneed : ∀ d ∈ pt.getD i [], Written ops listed d := by
    intro d hd
    obtain ⟨e, he, hb, h1⟩ := hc.need i o ho d hd
    have h2 := hall e he hb
    rcases h1 with ⟨o', h3, h4⟩ | h3
    · exact ⟨e.on, o', h2, h3, h4⟩
    · exact hI.cl e.on h2 d h3
  have hstep := steps_at _ _ hs i o (by simpa using ho)
  rw [Nat.zero_add] at hstep
  have hcs : ∀ j oj, ops[j]? = some oj → (listed.setIfInBounds i true).getD j false = true → ∀ e ∈ oj.after, Region.binds .any e = true → (listed.setIfInBounds i true).getD e.on false = true := by
    intro j oj hj hl e he hb
    by_cases hij : i = j
    · subst hij
      have : oj = o := Option.some.inj (hj.symm.trans ho)
      subst this
      exact getD_set_true (hall e he hb)
    · rw [getD_set_ne false hij] at hl
      exact getD_set_true (hI.cs j oj hj hl e he hb)
  have hcl : ∀ j, (listed.setIfInBounds i true).getD j false = true → ∀ d ∈ pt.getD j [], Written ops (listed.setIfInBounds i true) d := by
    intro j hj d hd
    by_cases hij : i = j
    · subst hij; exact (hneed d hd).more
    · rw [getD_set_ne false hij] at hj
      exact (hI.cl j hj d hd).more
  have hwait : ∀ m, m < k → ∀ j, Region.waitsFor .any ops (st.getD m 0) j = true → listed.getD j false = true := by
    intro m hm j hw
    obtain ⟨oj, hoj, e, he, hb, hon⟩ := Region.waitsFor_spec hw
    rw [← hon]
    exact hI.cs _ oj hoj (hk1 m hm) e he hb
  have hwait2 : ∀ m, m < k → ∀ j, waits2 ops (st.getD m 0) j = true → listed.getD j false = true := by
    intro m hm j hw
    unfold waits2 at hw
    rw [Bool.or_eq_true] at hw
    rcases hw with hw | hw
    · exact hwait m hm j hw
    · obtain ⟨x, -, hx⟩ := List.any_eq_true.1 hw
      rw [Bool.and_eq_true] at hx
      obtain ⟨oj, hoj, e, he, hb, hon⟩ := Region.waitsFor_spec hx.2
      rw [← hon]
      exact hI.cs _ oj hoj (hwait m hm x hx.1) e he hb
  cases hsi : st.idxOf? i with
  | none =>
    rw [hsi] at hstep
    have hns : ∀ m, m < st.length → st.getD m 0 ≠ i := by
      intro m hm e
      have h1 : i ∈ st := by rw [← e]; simp [hm]
      have h2 := List.idxOf?_eq_none_iff.1 hsi
      exact h2 h1
    have hlim : k ≤ lm.getD i st.length := by
      rcases hc.lim i hlt with h1 | h1
      · omega
      · rcases Nat.lt_or_ge (lm.getD i st.length) k with h2 | h2
        · exfalso
          have h3 := hwait2 _ h2 i (by
            have e : st.getD (lm.getD i st.length) ops.size = st.getD (lm.getD i st.length) 0 := by
              have : lm.getD i st.length < st.length := by omega
              generalize lm.getD i st.length = z at *
              simp [this]
            rw [← e]; exact h1)
          rw [hun] at h3; cases h3
        · exact h2
    refine wpOp_step ho (fun K' hK => hstep k u w hlim hJ (facts_mk fun d hd => hfac d (hneed d hd)) K' ?_)
    intro v w' hb hf hao
    have hwi : ∀ d, Written ops (listed.setIfInBounds i true) d → o.dst = some d ∨ Written ops listed d := by
      rintro d ⟨j, o', h1, h2, h3⟩
      by_cases hij : i = j
      · subst hij
        rw [ho] at h2
        injection h2 with h2
        subst h2
        exact .inl h3
      · rw [getD_set_ne false hij] at h1
        exact .inr ⟨j, o', h1, h2, h3⟩
    have hnw : ∀ d, o.dst = some d → ¬ Written ops listed d := by
      rintro d hd ⟨j, o', h1, h2, h3⟩
      have := hc.once i j o o' d ho h2 hd h3
      subst this
      rw [hun] at h1; cases h1
    have hne : ∀ d, o.dst ≠ some d → upd u o.dst v d = u d := by
      intro d hd
      cases h : o.dst with
      | none => rfl
      | some d' => rw [h] at hd; simp only [upd]; rw [if_neg (fun h => hd (by rw [h]))]
    have hal : ∀ d ∈ al, o.dst = some d → v = .pointer (some ⟨w.heap.size, 0, none⟩) ∧ w.heap.size < w'.heap.size := by
      intro d hd h
      unfold aOk at hao
      rw [h] at hao
      dsimp only at hao
      rw [show al.contains d = true by simpa using hd] at hao
      exact hao
    refine hK _ _ ⟨⟨k, upd u o.dst v, put_fill u o v (hc.dst i o ho), ?_, ?_, hk, fun m hm => getD_set_true (hk1 m hm), fun m hm hm' => ?_, fun d hd => (hk3 d hd).more, fun d hd hw => ?_, fun d hd d' hd' hdd hw hw' => ?_⟩, hcl, hcs, by simpa using hI.sz⟩
    · rintro d ⟨j, o', h1, h2, h3⟩
      by_cases hd : o.dst = some d
      · rw [hd] at hf ⊢
        have e : upd u (some d) v d = v := by simp [upd]
        rw [e]; exact hf
      · have hw : Written ops listed d := by
          by_cases hij : i = j
          · subst hij
            rw [ho] at h2
            injection h2 with h2
            subst h2
            exact absurd h3 hd
          · rw [getD_set_ne false hij] at h1
            exact ⟨j, o', h1, h2, h3⟩
        have e : upd u o.dst v d = u d := by
          cases h : o.dst with
          | none => rfl
          | some d' => rw [h] at hd; simp only [upd]; rw [if_neg (fun h => hd (by rw [h]))]
        rw [e]
        exact (look FL d).st _ _ _ (Keep.ofBelow hb) (hfac d hw)
    · have e : (js.getD k []).map (upd u o.dst v) = (js.getD k []).map u := by
        apply List.map_congr_left
        intro d hd
        cases h : o.dst with
        | none => rfl
        | some d' =>
          simp only [upd]
          rw [if_neg]
          rintro rfl
          obtain ⟨j, o', h1, h2, h3⟩ := hk3 d hd
          have := hc.once i j o o' d ho h2 h h3
          subst this
          rw [hun] at h1; cases h1
      rw [e]
      exact hst _ _ _ _ hb hJ
    · rw [getD_set_ne false (Ne.symm (hns m hm'))]; exact hk2 m hm hm'
    · by_cases h : o.dst = some d
      · obtain ⟨h1, h2⟩ := hal d hd h
        exact ⟨w.heap.size, by rw [h]; simp [upd, h1], h2⟩
      · rcases hwi d hw with h1 | h1
        · exact absurd h1 h
        · obtain ⟨g, h2, h3⟩ := hk4 d hd h1
          exact ⟨g, by rw [hne d h]; exact h2, Nat.lt_of_lt_of_le h3 hb.size⟩
    · by_cases h : o.dst = some d
      · have h' : o.dst ≠ some d' := fun h2 => hdd (by rw [h] at h2; injection h2)
        rcases hwi d' hw' with h1 | h1
        · exact absurd h1 h'
        · obtain ⟨g, h2, h3⟩ := hk4 d' hd' h1
          rw [hne d' h', h2, h]
          simp only [upd, if_pos]
          rw [(hal d hd h).1]
          intro he
          simp at he <;> omega
      · rcases hwi d hw with h1 | h1
        · exact absurd h1 h
        · by_cases h' : o.dst = some d'
          · obtain ⟨g, h2, h3⟩ := hk4 d hd h1
            rw [hne d h, h2, h']
            simp only [upd, if_pos]
            rw [(hal d' hd' h').1]
            intro he
            simp at he <;> omega
          · rcases hwi d' hw' with h2 | h2
            · exact absurd h2 h'
            · rw [hne d h, hne d' h']; exact hk5 d hd d' hd' hdd h1 h2
  | some m =>
    rw [hsi] at hstep
    obtain ⟨hm, hmi, -⟩ := List.idxOf?_eq_some_iff.1 hsi
    have hmi' : st.getD m 0 = i := by simp [hm]; exact hmi
    have hmk : m = k := by
      rcases Nat.lt_trichotomy m k with h1 | h1 | h1
      · have := hk1 m h1; rw [hmi', hun] at this; cases this
      · exact h1
      · exfalso
        have h2 := hc.schain m (by omega) hm
        rw [hmi'] at h2
        obtain ⟨oj, hoj, e, he, hb, hon⟩ := Region.waitsFor_spec h2
        have : oj = o := Option.some.inj (hoj.symm.trans ho)
        subst this
        have h3 := hall e he hb
        rw [hon, hk2 (m - 1) (by omega) (by omega)] at h3
        cases h3
    subst hmk
    have hdn : o.dst = none := hc.sdst m hm o (by rw [hmi']; exact ho)
    have hwal : ∀ d ∈ al, Written ops listed d := by
      intro d hd
      obtain ⟨j, o', h1, h2, h3⟩ := hc.alw d hd m hm
      rw [hmi'] at h3
      refine ⟨j, o', ?_, h1, h2⟩
      unfold waits2 at h3
      rw [Bool.or_eq_true] at h3
      rcases h3 with h3 | h3
      · obtain ⟨oj, hoj, e, he, hb, hon⟩ := Region.waitsFor_spec h3
        have : oj = o := Option.some.inj (hoj.symm.trans ho)
        subst this
        rw [← hon]; exact hall e he hb
      · obtain ⟨x, -, hx⟩ := List.any_eq_true.1 h3
        rw [Bool.and_eq_true] at hx
        obtain ⟨oj, hoj, e, he, hb, hon⟩ := Region.waitsFor_spec hx.1
        have : oj = o := Option.some.inj (hoj.symm.trans ho)
        subst this
        have h4 := hall e he hb
        rw [hon] at h4
        obtain ⟨oj2, hoj2, e2, he2, hb2, hon2⟩ := Region.waitsFor_spec hx.2
        rw [← hon2]
        exact hI.cs _ oj2 hoj2 h4 e2 he2 hb2
    refine wpOp_step ho (fun K' hK => hstep u w hJ (fun d hd d' hd' hdd => hk5 d hd d' hd' hdd (hwal d hd) (hwal d' hd')) (facts_mk fun d hd => hfac d (hneed d hd)) K' ?_)
    intro v w' hJ' hb
    refine hK _ _ ⟨⟨m + 1, u, by rw [hdn]; rfl, ?_, hJ', hm, fun j hj => ?_, fun j hj hj' => ?_, fun d hd => ?_, fun d hd hw => ?_, fun d hd d' hd' hdd hw hw' => hk5 d hd d' hd' hdd (hwal d hd) (hwal d' hd')⟩, hcl, hcs, by simpa using hI.sz⟩
    · rintro d ⟨j, o', h1, h2, h3⟩
      have hij : i ≠ j := by
        rintro rfl
        rw [ho] at h2
        injection h2 with h2
        subst h2
        rw [hdn] at h3; cases h3
      rw [getD_set_ne false hij] at h1
      exact (look FL d).st _ _ _ hb (hfac d ⟨j, o', h1, h2, h3⟩)
    · by_cases h1 : j = m
      · subst h1; rw [hmi']; simp [hil]
      · exact getD_set_true (hk1 j (by omega))
    · have h1 := hk2 j (by omega) hj'
      by_cases h2 : st.getD j 0 = i
      · exfalso
        have h3 : ∀ n, m ≤ n → n < st.length → i ≤ st.getD n 0 ∧ (m < n → i < st.getD n 0) := by
          intro n
          induction n with
          | zero => intro h4 h5; exact ⟨by have : m = 0 := by omega
                                           subst this; rw [hmi']; exact Nat.le_refl _, fun h => by omega⟩
          | succ n ih =>
            intro h4 h5
            by_cases h6 : m = n + 1
            · subst h6; exact ⟨by rw [hmi']; exact Nat.le_refl _, fun h => by omega⟩
            · have h7 := ih (by omega) (by omega)
              have h8 := hc.schain (n + 1) (by omega) h5
              obtain ⟨oj, hoj, e, he, hb', hon⟩ := Region.waitsFor_spec h8
              have h9 := hc.edge _ oj hoj e he hb'
              rw [hon, Nat.add_sub_cancel] at h9
              exact ⟨by omega, fun _ => by omega⟩
        have := (h3 j (by omega) hj').2 (by omega)
        omega
      · rw [getD_set_ne false (Ne.symm h2)]; exact h1
    · rcases hc.sjs m hm d hd with h1 | h1
      · rw [hmi'] at h1; exact (hneed d h1).more
      · exact (hk3 d h1).more
    · obtain ⟨g, h1, h2⟩ := hk4 d hd (hwal d hd)
      exact ⟨g, h1, Nat.lt_of_lt_of_le h2 hb.size⟩
theorem ready_nil_all (hc : Chk al ops pt ds st js lm) {listed : Array Bool} (hsz : listed.size = ops.size) (hr : Region.ready .any ops listed = []) : ∀ n i, i < n → i < ops.size → listed.getD i false = true := by
 intro n
 induction n with
 | zero => intro i h; omega
 | succ n ih =>
  intro i hin hi
  have hil : i < listed.size := by omega
  cases hv : listed.getD i false with
  | true => rfl
  | false =>
   exfalso
   have ho : ops[i]? = some ops[i] := by simp [hi]
   have : i ∈ Region.ready .any ops listed := by
    rw [mem_ready]
    refine ⟨by simp [hil] at hv ⊢; exact hv, _, ho, fun e he hb => ?_⟩
    have h1 := hc.edge i _ ho e he hb
    exact ih e.on (by omega) (by omega)
   rw [hr] at this
   cases this
theorem wpAny_inv (hc : Chk al ops pt ds st js lm) (hst : ∀ k l w w', Below w.heap.size w w' → J k l w → J k l w') (hs : StepsOk al P ops Q FL J js (fun u => fillL u ds t0) df pt st lm ops.toList 0)
  (hend : ∀ u w, J st.length ((js.getD st.length []).map u) w → Facts FL u w ds → Q .normal ⟨fillL u ds t0, df⟩ w) :
  ∀ (fuel : Nat) (listed : Array Bool) (a : Act) (w : World), ((List.range ops.size).filter fun j => !listed.getD j true).length ≤ fuel → Inv al ops FL J js t0 df ds pt st listed a w → wpAny P .any ops Q fuel listed a w := by
 have hfin : ∀ (listed : Array Bool) (a : Act) (w : World), Inv al ops FL J js t0 df ds pt st listed a w → Region.ready .any ops listed = [] → Q .normal a w := by
  intro listed a w hI hr
  obtain ⟨k, u, rfl, hfac, hJ, hk, hk1, hk2, hk3, hk4, hk5⟩ := hI.fr
  have hall := ready_nil_all hc hI.sz hr
  have hkl : k = st.length := by
   rcases Nat.lt_or_ge k st.length with h | h
   ·have h1 := hk2 k (Nat.le_refl _) h
    rw [hall (st.getD k 0 + 1) _ (by omega) (hc.slt k h)] at h1
    cases h1
   ·omega
  subst hkl
  refine hend u w hJ (facts_mk fun d hd => hfac d ?_)
  obtain ⟨i, o, h1, h2⟩ := hc.wr d hd
  exact ⟨i, o, hall (i + 1) i (by omega) (Array.getElem?_eq_some_iff.1 h1).1, h1, h2⟩
 intro fuel
 induction fuel with
 | zero =>
  intro listed a w hcnt hI
  have hr : Region.ready .any ops listed = [] := by
   rw [List.eq_nil_iff_forall_not_mem]
   intro j hj
   obtain ⟨h0, o, ho, -⟩ := mem_ready.1 hj
   have hlt : j < ops.size := (Array.getElem?_eq_some_iff.1 ho).1
   have hm : j ∈ (List.range ops.size).filter fun j => !listed.getD j true := by
    rw [List.mem_filter]
    exact ⟨List.mem_range.2 hlt, by rw [h0]; rfl⟩
   have := List.length_pos_of_mem hm
   omega
  exact ⟨hr, hfin _ _ _ hI hr⟩
 | succ fuel ih =>
  intro listed a w hcnt hI
  refine ⟨fun hr => hfin _ _ _ hI hr, fun i hi => ?_⟩
  obtain ⟨h0, o, ho, -⟩ := mem_ready.1 hi
  have hlt : i < ops.size := (Array.getElem?_eq_some_iff.1 ho).1
  refine wpOp_mono (fun a' w' hI' => ih _ a' w' ?_ hI') (inv_step hc hst hs hI hi)
  have := filter_less (p := fun j => !listed.getD j true) (q := fun j => !(listed.setIfInBounds i true).getD j true) (i := i) (by simp only [h0]; rfl) (by
   have hil : i < listed.size := by rw [hI.sz]; exact hlt
   simp [hil]) (fun j hj => by
   by_cases hij : i = j
   ·subst hij
    exfalso
    have hil : i < listed.size := by rw [hI.sz]; exact hlt
    simp [hil] at hj
   ·rw [getD_set_ne true hij] at hj; exact hj) (List.range ops.size) (List.mem_range.2 hlt)
  omega
theorem region_facts {id : Nat} {w : World} {opl : List Oper} (FL : List (Nat × Fact)) (J : Nat → List Value → World → Prop) (pt : List (List Nat)) (st : List Nat) (js : List (List Nat)) (lm : List Nat) (al : List Nat) {fr : (Nat → Value) → Array Value} (hfr : ∀ u, fillL u (temps FL) t0 = fr u)
  (hm : P.follows .mixedOrders = true) (hchk : chk al opl.toArray pt (temps FL) st js lm = true) (hst : ∀ k l w w', Below w.heap.size w w' → J k l w → J k l w') (hJ : J 0 [] w.drew)
  (hs : StepsOk al P opl.toArray Q FL J js fr df pt st lm opl 0)
  (hend : ∀ u w, J st.length ((js.getD st.length []).map u) w → Facts FL u w (temps FL) → Q .normal ⟨fr u, df⟩ w) : (Code.region id opl.toArray true).wp P Q ⟨t0, df⟩ w := by
 obtain rfl : (fun u => fillL u (temps FL) t0) = fr := funext hfr
 have hc := chk_spec hchk
 refine wp_region_any hm (wpAny_inv (t0 := t0) hc hst hs hend opl.toArray.size _ _ _ ?_ ⟨⟨0, fun d => t0.getD d undef, by rw [fillL_self], ?_, by rw [hc.js0]; exact hJ, Nat.zero_le _, fun m h => by omega, fun m _ _ => none_listed _ _, fun d hd => (by rw [hc.js0] at hd; cases hd), fun d _ hw => (by obtain ⟨j, o', h1, _, _⟩ := hw; rw [none_listed] at h1; cases h1), fun d _ d' _ _ hw => by obtain ⟨j, o', h1, _, _⟩ := hw; rw [none_listed] at h1; cases h1⟩, ?_, ?_, by simp⟩)
 ·exact Nat.le_trans (List.length_filter_le _ _) (by simp)
 ·rintro d ⟨j, o', h1, -, -⟩
  rw [none_listed] at h1; cases h1
 ·intro i hi
  rw [none_listed] at hi; cases hi
 ·intro j oj _ hl
  rw [none_listed] at hl; cases hl
end
end Go.Proofs.Yteejefeociclbaa.AS
namespace Go.Proofs.Yteejefeociclbaa
open Go.RowKit
theorem ex4 {s : ByteArray} (h : s.size = 10) : (s.extract 0 4).size = 4 := by simp; omega
theorem ex57 {s : ByteArray} (h : s.size = 10) : (s.extract 5 7).size = 2 := by simp; omega
def bt (s : ByteArray) (i : Nat) : UInt8 := s.data.toList.getD i 0
theorem bt_is (s : ByteArray) (i : Nat) (h : i < s.size) : s[i]'h = bt s i := by
 unfold bt
 rw [List.getD_eq_getElem?_getD, List.getElem?_eq_getElem (by simpa using h), tl_get s i h]
 rfl
def fmB (s : ByteArray) : Bool := decide (s.size = 10) && (allD (s.extract 0 4) && ((((bt s 4).toNat : Int) == 45) && (allD (s.extract 5 7) && ((((bt s 7).toNat : Int) == 45) && allD (s.extract 8 s.size)))))
set_option maxHeartbeats 1000000 in
theorem isText_any (s : ByteArray) (w : World) (_hs : s.size ≤ 1000) : Calls Try.prog 32 #[.string s] w fun e w' => e = .returned (.bool (fmB s)) ∧ w = w' := by
 unfold fmB
 by_cases h10 : s.size = 10
 ·rw [decide_eq_true h10]
  have hq : ((s.size : Int) == 10) = true := by simp; omega
  have h1 := fun w => areDig_any (s.extract 0 4) w (by rw [ex4 h10]; omega)
  have h2 := fun w => areDig_any (s.extract 5 7) w (by rw [ex57 h10]; omega)
  have h3 := fun w => areDig_any (s.extract 8 s.size) w (by simp; omega)
  have hb4 : ∀ h, s[4]'h = bt s 4 := bt_is s 4
  have hb7 : ∀ h, s[7]'h = bt s 7 := bt_is s 7
  generalize bt s 4 = b4 at *
  generalize bt s 7 = b7 at *
  have g1 : (4 : Int) ≤ s.size := by omega
  have g2 : (7 : Int) ≤ s.size := by omega
  have g3 : (8 : Int) ≤ s.size := by omega
  have g4 : (4 : Int) < s.size := by omega
  have g5 : (7 : Int) < s.size := by omega
  generalize allD (s.extract 0 4) = D1 at *
  generalize allD (s.extract 5 7) = D2 at *
  generalize allD (s.extract 8 s.size) = D3 at *
  have H1 := Lib.hid h1
  have H2 := Lib.hid h2
  have H3 := Lib.hid h3
  clear h1 h2 h3 h10
  cases D1
  case' true => cases he4 : ((b4.toNat : Int) == 45)
  case' true.true => cases D2
  case' true.true.true => cases he7 : ((b7.toNat : Int) == 45)
  all_goals
   go_enter Try.func32, Try.ntmps32
   go_wp2_with (go_at_call 37; first | ((with_reducible refine (H1.out _).mono ?_); rintro e w' ⟨rfl, rfl⟩) | ((with_reducible refine (H2.out _).mono ?_); rintro e w' ⟨rfl, rfl⟩) | ((with_reducible refine (H3.out _).mono ?_); rintro e w' ⟨rfl, rfl⟩))
   go_ret
   exact ⟨by simp, rfl⟩
 ·rw [decide_eq_false h10]
  have hq : ((s.size : Int) == 10) = false := by simp; omega
  clear h10
  go_enter Try.func32, Try.ntmps32
  go_wp2_with fail
  go_ret
  exact ⟨rfl, rfl⟩
theorem fmB_is {s : ByteArray} (h : fmB s = true) : s.size = 10 ∧ allD (s.extract 0 4) = true ∧ ((bt s 4).toNat : Int) = 45 ∧ allD (s.extract 5 7) = true ∧ ((bt s 7).toNat : Int) = 45 ∧ allD (s.extract 8 s.size) = true := by
 unfold fmB at h
 simpa only [Bool.and_eq_true, decide_eq_true_eq, beq_iff_eq] using h
def paY (s : ByteArray) : Int := (numT (s.extract 0 4) : Int)
def paM (s : ByteArray) : Int := (numT (s.extract 5 7) : Int)
def paD (s : ByteArray) : Int := (numT (s.extract 8 s.size) : Int)
def paN (s : ByteArray) : Int := if fmB s then ofN (paY s) (paM s) (paD s) else 0
def paE (s : ByteArray) : Int := if fmB s then ofE (paY s) (paM s) (paD s) else 3
theorem dparse_no (s : ByteArray) (w : World) (hs : s.size ≤ 1000) (h : fmB s = false) : Calls Try.prog 20 #[.string s] w fun e w' => e = .returned (.tuple #[.int .i64 0, .int .i64 3]) ∧ Below w.heap.size w w' := by
 have ht := fun w => isText_any s w hs
 rw [h] at ht
 have HT := Lib.hid ht
 clear ht h
 go_enter Try.func20, Try.ntmps20
 go_wp2_with (go_at_call 32; refine (HT.out _).mono ?_; rintro e w' ⟨rfl, rfl⟩)
 go_ret2
 exact ⟨rfl, Below.refl _ _⟩
def DNo6 (W : World) : Nat → List Value → World → Prop := fun _ _ w => Below W.heap.size W w
theorem DNo6.st (W : World) : ∀ k l w w', Below w.heap.size w w' → DNo6 W k l w → DNo6 W k l w' := fun _ _ _ _ hb h => below_more h hb
def dpFL (s : ByteArray) : List (Nat × AS.Fact) := [(7, AS.Fact.is (.string s)), (8, AS.Fact.is (.string (s.extract 0 4))), (9, AS.Fact.is (.int .i64 (numT (s.extract 0 4) : Int))), (10, AS.Fact.is (.string s)), (11, AS.Fact.is (.string (s.extract 5 7))), (12, AS.Fact.is (.int .i64 (numT (s.extract 5 7) : Int))), (13, AS.Fact.is (.string s)), (14, AS.Fact.is (.string (s.extract 8 s.size))), (15, AS.Fact.is (.int .i64 (numT (s.extract 8 s.size) : Int))), (16, AS.Fact.is (.tuple #[.int .i64 (ofN (numT (s.extract 0 4) : Int) (numT (s.extract 5 7) : Int) (numT (s.extract 8 s.size) : Int)), .int .i64 (ofE (numT (s.extract 0 4) : Int) (numT (s.extract 5 7) : Int) (numT (s.extract 8 s.size) : Int))])), (17, AS.Fact.is (.int .i64 (ofN (numT (s.extract 0 4) : Int) (numT (s.extract 5 7) : Int) (numT (s.extract 8 s.size) : Int)))), (18, AS.Fact.is (.int .i64 (ofE (numT (s.extract 0 4) : Int) (numT (s.extract 5 7) : Int) (numT (s.extract 8 s.size) : Int)))), (2, AS.Fact.is (.int .i64 (ofN (numT (s.extract 0 4) : Int) (numT (s.extract 5 7) : Int) (numT (s.extract 8 s.size) : Int)))), (3, AS.Fact.is (.int .i64 (ofE (numT (s.extract 0 4) : Int) (numT (s.extract 5 7) : Int) (numT (s.extract 8 s.size) : Int))))]
set_option maxRecDepth 20000 in
set_option maxHeartbeats 1000000 in
theorem dparse_yes (s : ByteArray) (w : World) (hs : s.size ≤ 1000) (h : fmB s = true) : Calls Try.prog 20 #[.string s] w fun e w' => e = .returned (.tuple #[.int .i64 (ofN (paY s) (paM s) (paD s)), .int .i64 (ofE (paY s) (paM s) (paD s))]) ∧ Below w.heap.size w w' := by
 have ht := fun w => isText_any s w hs
 rw [h] at ht
 have HT := Lib.hid ht
 obtain ⟨h10, a1, -, a2, -, a3⟩ := fmB_is h
 have h1 := fun w => number_any (s.extract 0 4) w (by rw [ex4 h10]; omega) a1
 have h2 := fun w => number_any (s.extract 5 7) w (by rw [ex57 h10]; omega) a2
 have h3 := fun w => number_any (s.extract 8 s.size) w (by simp; omega) a3
 have g1 : (4 : Int) ≤ s.size := by omega
 have g2 : (7 : Int) ≤ s.size := by omega
 have g3 : (8 : Int) ≤ s.size := by omega
 unfold paY paM paD
 have H1 := Lib.hid h1
 have H2 := Lib.hid h2
 have H3 := Lib.hid h3
 clear ht h h10 a1 a2 a3 h1 h2 h3
 go_enter Try.func20, Try.ntmps20
 go_wp2_with (go_at_call 32; refine (HT.out _).mono ?_; rintro e w' ⟨rfl, rfl⟩)
 refine AS.region_facts (dpFL s) (DNo6 w) [[], [7], [8], [], [10], [11], [], [13], [14], [9, 12, 15], [16], [16], [17], [18]] [] [[]] [0, 0, 0, 0, 0, 0, 0, 0, 0, 0, 0, 0, 0, 0] [] (fun u => by simp only [dpFL, AS.temps, List.map_cons, List.map_nil, fillL, List.setIfInBounds_toArray, List.set_cons_zero, List.set_cons_succ]; rfl) (by kernel_rfl) (by kernel_rfl) (DNo6.st w) (dc_drew (Below.refl _ _)) ?_ ?_
 ·refine AS.sc rfl rfl rfl ?_ ?_
  ·intro k_ u w_ hk hJ hF K hK
   clear hF
   go_simp
   exact hK.out _ _ (Below.refl _ _) (rfl) trivial
  refine AS.sc rfl rfl rfl ?_ ?_
  ·intro k_ u w_ hk hJ hF K hK
   have h7 : u 7 = .string s := AS.facts_get hF 7 (by simp)
   clear hF
   simp only [h7] at hK ⊢
   clear h7
   go_simp
   exact hK.out _ _ (Below.refl _ _) (rfl) trivial
  refine AS.sc rfl rfl rfl ?_ ?_
  ·intro k_ u w_ hk hJ hF K hK
   have h8 : u 8 = .string (s.extract 0 4) := AS.facts_get hF 8 (by simp)
   clear hF
   simp only [h8] at hK ⊢
   clear h8
   go_simp
   refine (H1.out _).mono ?_
   rintro e w2 ⟨rfl, rfl⟩
   exact hK.out _ _ (Below.refl _ _) rfl trivial
  refine AS.sc rfl rfl rfl ?_ ?_
  ·intro k_ u w_ hk hJ hF K hK
   clear hF
   go_simp
   exact hK.out _ _ (Below.refl _ _) (rfl) trivial
  refine AS.sc rfl rfl rfl ?_ ?_
  ·intro k_ u w_ hk hJ hF K hK
   have h10 : u 10 = .string s := AS.facts_get hF 10 (by simp)
   clear hF
   simp only [h10] at hK ⊢
   clear h10
   go_simp
   exact hK.out _ _ (Below.refl _ _) (rfl) trivial
  refine AS.sc rfl rfl rfl ?_ ?_
  ·intro k_ u w_ hk hJ hF K hK
   have h11 : u 11 = .string (s.extract 5 7) := AS.facts_get hF 11 (by simp)
   clear hF
   simp only [h11] at hK ⊢
   clear h11
   go_simp
   refine (H2.out _).mono ?_
   rintro e w2 ⟨rfl, rfl⟩
   exact hK.out _ _ (Below.refl _ _) rfl trivial
  refine AS.sc rfl rfl rfl ?_ ?_
  ·intro k_ u w_ hk hJ hF K hK
   clear hF
   go_simp
   exact hK.out _ _ (Below.refl _ _) (rfl) trivial
  refine AS.sc rfl rfl rfl ?_ ?_
  ·intro k_ u w_ hk hJ hF K hK
   have h13 : u 13 = .string s := AS.facts_get hF 13 (by simp)
   clear hF
   simp only [h13] at hK ⊢
   clear h13
   go_simp
   exact hK.out _ _ (Below.refl _ _) (rfl) trivial
  refine AS.sc rfl rfl rfl ?_ ?_
  ·intro k_ u w_ hk hJ hF K hK
   have h14 : u 14 = .string (s.extract 8 s.size) := AS.facts_get hF 14 (by simp)
   clear hF
   simp only [h14] at hK ⊢
   clear h14
   go_simp
   refine (H3.out _).mono ?_
   rintro e w2 ⟨rfl, rfl⟩
   exact hK.out _ _ (Below.refl _ _) rfl trivial
  refine AS.sc rfl rfl rfl ?_ ?_
  ·intro k_ u w_ hk hJ hF K hK
   have h9 : u 9 = .int .i64 (numT (s.extract 0 4) : Int) := AS.facts_get hF 9 (by simp)
   have h12 : u 12 = .int .i64 (numT (s.extract 5 7) : Int) := AS.facts_get hF 12 (by simp)
   have h15 : u 15 = .int .i64 (numT (s.extract 8 s.size) : Int) := AS.facts_get hF 15 (by simp)
   clear hF
   simp only [h9, h12, h15] at hK ⊢
   clear h9 h12 h15
   go_simp
   refine (dtof_any _ _ _ _).mono ?_
   rintro e w2 ⟨rfl, hb⟩
   exact hK.out _ _ hb rfl trivial
  refine AS.sc rfl rfl rfl ?_ ?_
  ·intro k_ u w_ hk hJ hF K hK
   have h16 : u 16 = .tuple #[.int .i64 (ofN (numT (s.extract 0 4) : Int) (numT (s.extract 5 7) : Int) (numT (s.extract 8 s.size) : Int)), .int .i64 (ofE (numT (s.extract 0 4) : Int) (numT (s.extract 5 7) : Int) (numT (s.extract 8 s.size) : Int))] := AS.facts_get hF 16 (by simp)
   clear hF
   simp only [h16] at hK ⊢
   clear h16
   go_simp
   exact hK.out _ _ (Below.refl _ _) (rfl) trivial
  refine AS.sc rfl rfl rfl ?_ ?_
  ·intro k_ u w_ hk hJ hF K hK
   have h16 : u 16 = .tuple #[.int .i64 (ofN (numT (s.extract 0 4) : Int) (numT (s.extract 5 7) : Int) (numT (s.extract 8 s.size) : Int)), .int .i64 (ofE (numT (s.extract 0 4) : Int) (numT (s.extract 5 7) : Int) (numT (s.extract 8 s.size) : Int))] := AS.facts_get hF 16 (by simp)
   clear hF
   simp only [h16] at hK ⊢
   clear h16
   go_simp
   exact hK.out _ _ (Below.refl _ _) (rfl) trivial
  refine AS.sc rfl rfl rfl ?_ ?_
  ·intro k_ u w_ hk hJ hF K hK
   have h17 : u 17 = .int .i64 (ofN (numT (s.extract 0 4) : Int) (numT (s.extract 5 7) : Int) (numT (s.extract 8 s.size) : Int)) := AS.facts_get hF 17 (by simp)
   clear hF
   simp only [h17] at hK ⊢
   clear h17
   go_simp
   exact hK.out _ _ (Below.refl _ _) (rfl) trivial
  refine AS.sc rfl rfl rfl ?_ ?_
  ·intro k_ u w_ hk hJ hF K hK
   have h18 : u 18 = .int .i64 (ofE (numT (s.extract 0 4) : Int) (numT (s.extract 5 7) : Int) (numT (s.extract 8 s.size) : Int)) := AS.facts_get hF 18 (by simp)
   clear hF
   simp only [h18] at hK ⊢
   clear h18
   go_simp
   exact hK.out _ _ (Below.refl _ _) (rfl) trivial
  exact AS.StepsOk.nil
 ·intro u W9 hJ9 hF
  have h2 : u 2 = .int .i64 (ofN (numT (s.extract 0 4) : Int) (numT (s.extract 5 7) : Int) (numT (s.extract 8 s.size) : Int)) := AS.facts_get hF 2 (by simp [dpFL, AS.temps])
  have h3 : u 3 = .int .i64 (ofE (numT (s.extract 0 4) : Int) (numT (s.extract 5 7) : Int) (numT (s.extract 8 s.size) : Int)) := AS.facts_get hF 3 (by simp [dpFL, AS.temps])
  have hB9 : Below w.heap.size w W9 := hJ9
  clear hF hJ9
  simp only [h2, h3]
  go_wp2_with fail
  go_ret2
  exact ⟨rfl, hB9⟩
theorem dtparse_any (s : ByteArray) (w : World) (hs : s.size ≤ 1000) : Calls Try.prog 20 #[.string s] w fun e w' => e = .returned (.tuple #[.int .i64 (paN s), .int .i64 (paE s)]) ∧ Below w.heap.size w w' := by
 unfold paN paE
 cases h : fmB s
 ·exact dparse_no s w hs h
 ·exact dparse_yes s w hs h
theorem ex_date : paN ⟨#[50, 48, 50, 54, 45, 49, 49, 45, 49, 54]⟩ = 20773 ∧ paE ⟨#[50, 48, 50, 54, 45, 49, 49, 45, 49, 54]⟩ = 0 ∧ wkN 20773 = 0 ∧ wkE 20773 = 0 := ⟨by kernel_rfl, by kernel_rfl, by kernel_rfl, by kernel_rfl⟩
theorem dtawake_any (w : World) : Calls Try.prog 11 #[] w fun e w' => e = .returned (.bool true) ∧ Below w.heap.size w w' := by
 obtain ⟨e1, e2, e3, e4⟩ := ex_date
 have h1 := fun w => dtparse_any ⟨#[50, 48, 50, 54, 45, 49, 49, 45, 49, 54]⟩ w (by decide)
 rw [e1, e2] at h1
 have h2 := fun w => wk_any 20773 w
 rw [e3, e4] at h2
 have H1 := Lib.hid h1
 have H2 := Lib.hid h2
 clear h1 h2 e1 e2 e3 e4
 have hB := Below.refl w.heap.size w
 go_enter Try.func11, Try.ntmps11
 go_wp2_with (first | (go_at_call 20; refine (H1.out _).mono ?_; rintro e w' ⟨rfl, hb⟩; replace hB := below_more hB hb; clear hb) | (go_at_call 24; refine (H2.out _).mono ?_; rintro e w' ⟨rfl, rfl⟩))
 go_ret
 exact ⟨rfl, hB⟩
open Go.ChangeShapes Go.WideShapes Go.ChangeAt Go.WideMaps Go.WideElems Go.RowKit
theorem laid_out : laidOutB Try.prog = true := by kernel_rfl
theorem trodAll_stays {H : Type} {enc : TypeId × Value → H} {P : Program} (hl : laidOutB P = true) {W W' : World} (hb : Below W.heap.size W W') {sp : Nat → Bool} :
  ∀ {ts : List TypeId} {vs : List Value} {ds : List (DataW H)} {ps : List MemPlace}, (ts.all fun t => P.readableRec t && decide (t < P.types.size)) = true → DataW.TrodAll enc P W 0 (fun _ => true) true ts vs ds ps →
   (∀ x ∈ ps, x.block < W.heap.size) → (∀ x ∈ ps, sp x.block = true) → DataW.TrodAll enc P W' 0 sp true ts vs ds ps
 | [], vs, ds, ps, _, h, _, _ => by
  cases vs <;> cases ds <;> simp [DataW.TrodAll] at h ⊢
  exact h
 | t :: ts, vs, ds, ps, ht, h, hlt, hs => by
  obtain ⟨v, vs', d, ds', p, q, rfl, rfl, rfl, h1, h2⟩ := trodAll_cons h
  simp only [List.all_cons, Bool.and_eq_true, decide_eq_true_eq] at ht
  refine trodAll_cons_mk (WideElems.Trod_stays hl ht.1.1 ht.1.2 h1 (fun x hx => hb.same (hlt x (by simp [hx]))) fun x hx => hs x (by simp [hx])) ?_
  exact trodAll_stays hl hb ht.2 h2 (fun x hx => hlt x (by simp [hx])) fun x hx => hs x (by simp [hx])
theorem post_plain {H : Type} {enc : TypeId × Value → H} {P : Program} {f : Func} {s : ChangeSpec} {ap fr ho ag : Bool} {W W' : World} {args : Array Value} {v : Value} {ds gs : List (DataW H)} {before pa pv : List MemPlace}
  (hW : DataW.Whole enc P f.params.toList s.vars ap W args.toList ds gs before)
  (hres : ∀ (b : Nat) (sp : Nat → Bool) (hd : Bool), DataW.TrodAll enc P W' b sp hd f.resultTypes.toList (v.resultList f.resultTypes.size) (s.fn H (ds ++ gs)).results [])
  (hargs : ∀ sp : Nat → Bool, (∀ p ∈ before, sp p.block = true) → DataW.TrodAll enc P W' 0 sp true f.params.toList args.toList (s.fn H (ds ++ gs)).args pa)
  (hvars : ∀ sp : Nat → Bool, (∀ p ∈ before, sp p.block = true) → DataW.TrodVars enc P W' sp s.vars (s.fn H (ds ++ gs)).vars pv)
  (hps : before = pa ++ pv) (hb : Below W.heap.size W W')
  (hok : ∀ (j : Nat) (t : TypeId) (r : Value), f.resultTypes[j]? = some t → (v.resultList f.resultTypes.size)[j]? = some r → Value.okWide P W' .any 0 t r) : s.post enc P f ap fr ho ag W args v W' := by
 have hlt : ∀ p ∈ before, p.block < W.heap.size := fun p hp => hW.lt p hp
 have hin : ∀ p ∈ before, (fun b => decide (b < W.heap.size)) p.block = true := fun p hp => by simpa using hlt p hp
 refine ⟨ds, gs, before, [], pa, pv, hW, hres _ _ _, hargs _ hin, hvars _ hin, World.keptBut_mono (fun p hp => ⟨hp, .inr (List.mem_append.1 (hps ▸ hp))⟩) (hb.frame (· ∈ before)), fun _ => ?_⟩
 obtain ⟨_, _, _, _, _, hz, hn⟩ := hW
 refine ⟨hok, _, _, ([] ++ pa) ++ pv, ⟨[] ++ pa, pv, trodAll_append (hargs _ (fun _ _ => rfl)) (hres _ _ _), hvars _ (fun _ _ => rfl), rfl, fun b off hp => ?_, fun ha => ?_⟩, ?_⟩
 ·have hbe : MemPlace.cell b off ∈ before := by rw [hps]; simpa using hp
  rw [hb.frozen (hlt _ hbe)]
  exact hz b off hbe
 ·have h9 := hn ha
  rw [hps] at h9
  simpa using h9
 ·intro p hp _
  rw [hps, ← List.nil_append pa]
  exact hp
end Go.Proofs.Yteejefeociclbaa
