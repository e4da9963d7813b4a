/- Contracts and the law of DateCivil, part 1: what was proved of each, callees first. -/
import Derived.Test.YteejefeociclbaaProg
import Derived.WalkKit
import Derived.WalkSpells
import Derived.Lib.Hide
import Derived.Deep.QuietTactic
import Derived.BigQuiet
import Derived.LoopTactic
import Derived.Laws.Cells
import Derived.Below
import Derived.Test.YteejefeociclbaaDK1
namespace Go.Proofs.Yteejefeociclbaa
theorem IsCiv.yr {n y m d : Int} (h : IsCiv n y m d) : nyr y ≤ n ∧ n < nyr (y + 1) := by
 obtain ⟨a, b, c, e, f, g, rfl⟩ := h
 have h1 := nyr_succ y a
 have h2 := mon_succ y m c e
 have h3 := mon_bd (y := y) (m := m + 1) (by omega) (by omega)
 have h4 := mon_bd (y := y) (m := m) (by omega) (by omega)
 unfold dno
 omega
theorem IsCiv.bd {n y m d : Int} (h : IsCiv n y m d) : -25567 ≤ n ∧ n ≤ 84005 := by
 have h1 := h.yr
 have h2 := nyr_bd h.y0 (by have := h.y1; omega)
 have h3 := nyr_bd (y := y + 1) (by have := h.y0; omega) (by have := h.y1; omega)
 omega
theorem IsCiv.uniq {n y m d y' m' d' : Int} (h : IsCiv n y m d) (h' : IsCiv n y' m' d') : y = y' ∧ m = m' ∧ d = d' := by
 have hy := h.yr
 have hy' := h'.yr
 obtain ⟨a, b, c, e, f, g, k⟩ := h
 obtain ⟨a', b', c', e', f', g', k'⟩ := h'
 have e1 : y = y' := by
  rcases Int.lt_trichotomy y y' with hl | hl | hl
  ·have := nyr_mono (y := y + 1) (z := y') (by omega) (by omega); omega
  ·exact hl
  ·have := nyr_mono (y := y' + 1) (z := y) (by omega) (by omega); omega
 subst e1
 unfold dno at k k'
 have s := mon_succ y m c e
 have s' := mon_succ y m' c' e'
 have e2 : m = m' := by
  rcases Int.lt_trichotomy m m' with hl | hl | hl
  ·have := mon_mono (y := y) (m := m + 1) (n := m') (by omega) (by omega) (by omega); omega
  ·exact hl
  ·have := mon_mono (y := y) (m := m' + 1) (n := m) (by omega) (by omega) (by omega); omega
 subst e2
 exact ⟨rfl, rfl, by omega⟩

/- The year, the month and the day of a number of days. -/
def civY0 (n : Int) : Int := 1900 + (n + 25567) / 365
def civY (n : Int) : Int := if n < nyr (civY0 n) then civY0 n - 1 else civY0 n
def civR (n : Int) : Int := n - nyr (civY n)
def monOf (l r : Int) : Int := if r < 31 then 1 else if r < 59 + l then 2 else if r < 90 + l then 3 else if r < 120 + l then 4 else if r < 151 + l then 5 else if r < 181 + l then 6 else if r < 212 + l then 7 else if r < 243 + l then 8 else if r < 273 + l then 9 else if r < 304 + l then 10 else if r < 334 + l then 11 else 12
def civM (n : Int) : Int := monOf (lpI (civY n)) (civR n)
def civD (n : Int) : Int := civR n - mon (civY n) (civM n) + 1
theorem civY_bd {n : Int} (h0 : -25567 ≤ n) (h1 : n ≤ 84005) : 1900 ≤ civY n ∧ civY n ≤ 2199 ∧ nyr (civY n) ≤ n ∧ n < nyr (civY n + 1) := by
 unfold civY
 have e : civY0 n = 1900 + (n + 25567) / 365 := rfl
 have hk0 : 1900 ≤ civY0 n := by omega
 have hk1 : civY0 n ≤ 2200 := by omega
 have b0 := lpN_bd hk0 (by omega)
 have u : nyr (civY0 n) = -25567 + 365 * (civY0 n - 1900) + lpN (civY0 n) - 460 := rfl
 split
 ·rename_i hlt
  have hk2 : 1901 ≤ civY0 n := by
   rcases Int.lt_or_le (civY0 n) 1901 with hc | hc
   ·have hc2 : civY0 n = 1900 := by omega
    rw [hc2, nyr_1900] at hlt
    omega
   ·exact hc
  have s := nyr_succ (civY0 n - 1) (by omega)
  rw [show civY0 n - 1 + 1 = civY0 n by omega] at s ⊢
  have l := lpI_01 (civY0 n - 1)
  refine ⟨by omega, by omega, by omega, by omega⟩
 ·rename_i hge
  have s := nyr_succ (civY0 n) (by omega)
  have l := lpI_01 (civY0 n)
  refine ⟨by omega, ?_, by omega, by omega⟩
  rcases Int.lt_or_le 2199 (civY0 n) with hc | hc
  ·have hc2 : civY0 n = 2200 := by omega
   rw [hc2, nyr_2200] at hge
   omega
  ·exact hc
theorem monOf_is {l r : Int} (y : Int) (hl : lpI y = l) (h0 : 0 ≤ r) (h1 : r < 365 + l) : (1 ≤ monOf l r ∧ monOf l r ≤ 12) ∧ mon y (monOf l r) ≤ r ∧ r < mon y (monOf l r) + mdy y (monOf l r) := by
 have h01 := lpI_01 y
 rw [hl] at h01
 unfold monOf
 repeat' split
 all_goals (simp [mon, mdy, hl]; omega)
theorem civ_is {n : Int} (h : vdB n = true) : IsCiv n (civY n) (civM n) (civD n) := by
 obtain ⟨h0, h1⟩ := vdB_iff.1 h
 obtain ⟨a, b, c, d⟩ := civY_bd h0 h1
 have s := nyr_succ (civY n) a
 have r0 : 0 ≤ civR n := by unfold civR; omega
 have r1 : civR n < 365 + lpI (civY n) := by unfold civR; omega
 obtain ⟨⟨m0, m1⟩, k0, k1⟩ := monOf_is (civY n) rfl r0 r1
 have em : civM n = monOf (lpI (civY n)) (civR n) := rfl
 rw [← em] at m0 m1 k0 k1
 have ed : civD n = civR n - mon (civY n) (civM n) + 1 := rfl
 have er : civR n = n - nyr (civY n) := rfl
 refine ⟨a, b, m0, m1, by omega, by omega, ?_⟩
 unfold dno
 omega
theorem civ_eq {n y m d : Int} (h : IsCiv n y m d) : civY n = y ∧ civM n = m ∧ civD n = d :=
 (civ_is (vdB_iff.2 h.bd)).uniq h
theorem dayB_of {n y m d : Int} (h : IsCiv n y m d) : dayB y m d = true := dayB_iff.2 (by have := h.eq; subst this; exact h)
/- What Of answers. -/
open Go.RowKit
theorem rleap_any (y : Int) (w : World) (h0 : 0 ≤ y) : Calls Try.prog 29 #[.int .i64 y] w fun e w' => e = .returned (.bool (lpB y)) ∧ w = w' := by
 rw [lpB_eq]
 cases h1 : (y % 4 == 0)
 ·go_enter Try.func29, Try.ntmps29
  go_wp2
  go_ret
  exact ⟨rfl, rfl⟩
 ·cases h2 : (y % 100 == 0)
  ·have h2' : (y % 100 != 0) = true := by rw [bne, h2]; rfl
   rw [h2']
   go_enter Try.func29, Try.ntmps29
   go_wp2
   go_ret
   exact ⟨rfl, rfl⟩
  ·have h2' : (y % 100 != 0) = false := by rw [bne, h2]; rfl
   rw [h2']
   go_enter Try.func29, Try.ntmps29
   go_wp2
   go_ret
   exact ⟨by simp, rfl⟩
theorem rvd_any (n : Int) (w : World) : Calls Try.prog 21 #[.int .i64 n] w fun e w' => e = .returned (.bool (vdB n)) ∧ w = w' := by
 unfold vdB
 by_cases h1 : (-25567 : Int) ≤ n
 ·rw [decide_eq_true h1]
  go_enter Try.func21, Try.ntmps21
  go_wp2
  go_ret
  exact ⟨rfl, rfl⟩
 ·rw [decide_eq_false h1]
  have h3 : decide ((-25567 : Int) ≤ n) = false := decide_eq_false h1
  clear h1
  go_enter Try.func21, Try.ntmps21
  go_wp2
  go_ret
  exact ⟨rfl, rfl⟩
def mlens : Array Value := #[.int .i64 31, .int .i64 28, .int .i64 31, .int .i64 30, .int .i64 31, .int .i64 30, .int .i64 31, .int .i64 31, .int .i64 30, .int .i64 31, .int .i64 30, .int .i64 31]
theorem run_index_arr {P : Program} (t e : TypeId) (n : Nat) (cs : Array Value) (k : IntKind) (i : Nat) (v : Value) (w : World) (h : P.underlying t = some (.array n e)) (hi : i < n) (hv : cs[i]? = some v)
  (hs : ∀ w, (sizeOf e).run P w = .ok 1 w) (ha : ∀ w, (isAgg e).run P w = .ok false w) :
  (Instr.index t (.agg cs) (.int k i)).run P w = .ok v w := by
 simp [Instr.index, run_underlying h, asIntOf, hv, hi, hs, ha, go_sem]
theorem size_int (w : World) : (sizeOf 3).run Try.prog w = .ok 1 w := by
 have h : Try.t3.size = 1 := by kernel_rfl
 simp [sizeOf, h, go_sem]
theorem agg_int (w : World) : (isAgg 3).run Try.prog w = .ok false w := by
 simp [isAgg, run_underlying Try.underlying3, go_sem]
theorem rdays_out (y m : Int) (w : World) (h : inYM y m = false) : Calls Try.prog 15 #[.int .i64 y, .int .i64 m] w fun e w' => e = .returned (.int .i64 0) ∧ w = w' := by
 have hx : m < 1 ∨ ¬ m < 1 ∧ 12 < m ∨ ¬ m < 1 ∧ ¬ 12 < m ∧ y < 1900 ∨ ¬ m < 1 ∧ ¬ 12 < m ∧ ¬ y < 1900 ∧ 2199 < y := by
  have h2 : ¬ (1900 ≤ y ∧ y ≤ 2199 ∧ 1 ≤ m ∧ m ≤ 12) := fun e => by rw [inYM_iff.2 e] at h; cases h
  omega
 clear h
 rcases hx with h1 | ⟨h0, h1⟩ | ⟨h0, h1, h2⟩ | ⟨h0, h1, h2, h3⟩
 all_goals
  go_enter Try.func15, Try.ntmps15
  go_wp2
  go_ret
  exact ⟨rfl, rfl⟩
theorem rdays_two (y : Int) (w : World) (h0 : 1900 ≤ y) (h1 : y ≤ 2199) : Calls Try.prog 15 #[.int .i64 y, .int .i64 2] w fun e w' => e = .returned (.int .i64 (28 + lpI y)) ∧ w = w' := by
 have hi := fun w => rleap_any y w (by omega)
 unfold lpI
 cases hl : lpB y
 all_goals
  rw [hl] at hi
  have HI := Lib.hid hi
  clear hi hl
  have hx : ∀ W : World, (Instr.index 40 (.agg #[.int .i64 31, .int .i64 28, .int .i64 31, .int .i64 30, .int .i64 31, .int .i64 30, .int .i64 31, .int .i64 31, .int .i64 30, .int .i64 31, .int .i64 30, .int .i64 31]) (.int .i64 1)).run Try.prog W = .ok (.int .i64 28) W := fun W => run_index_arr (P := Try.prog) 40 3 12 mlens .i64 1 (.int .i64 28) W Try.underlying40 (by omega) rfl size_int agg_int
  go_enter Try.func15, Try.ntmps15
  go_wp2_with (go_at_call 29; refine (HI.out _).mono ?_; rintro e w' ⟨rfl, rfl⟩)
  go_ret
  exact ⟨rfl, rfl⟩
theorem rdays_1 (y : Int) (w : World) (h0 : 1900 ≤ y) (h1 : y ≤ 2199) : Calls Try.prog 15 #[.int .i64 y, .int .i64 1] w fun e w' => e = .returned (.int .i64 31) ∧ w = w' := by
 have hx : ∀ W : World, (Instr.index 40 (.agg #[.int .i64 31, .int .i64 28, .int .i64 31, .int .i64 30, .int .i64 31, .int .i64 30, .int .i64 31, .int .i64 31, .int .i64 30, .int .i64 31, .int .i64 30, .int .i64 31]) (.int .i64 0)).run Try.prog W = .ok (.int .i64 31) W := fun W => run_index_arr (P := Try.prog) 40 3 12 mlens .i64 0 (.int .i64 31) W Try.underlying40 (by omega) rfl size_int agg_int
 go_enter Try.func15, Try.ntmps15
 go_wp2
 go_ret
 exact ⟨rfl, rfl⟩
theorem rdays_3 (y : Int) (w : World) (h0 : 1900 ≤ y) (h1 : y ≤ 2199) : Calls Try.prog 15 #[.int .i64 y, .int .i64 3] w fun e w' => e = .returned (.int .i64 31) ∧ w = w' := by
 have hx : ∀ W : World, (Instr.index 40 (.agg #[.int .i64 31, .int .i64 28, .int .i64 31, .int .i64 30, .int .i64 31, .int .i64 30, .int .i64 31, .int .i64 31, .int .i64 30, .int .i64 31, .int .i64 30, .int .i64 31]) (.int .i64 2)).run Try.prog W = .ok (.int .i64 31) W := fun W => run_index_arr (P := Try.prog) 40 3 12 mlens .i64 2 (.int .i64 31) W Try.underlying40 (by omega) rfl size_int agg_int
 go_enter Try.func15, Try.ntmps15
 go_wp2
 go_ret
 exact ⟨rfl, rfl⟩
theorem rdays_4 (y : Int) (w : World) (h0 : 1900 ≤ y) (h1 : y ≤ 2199) : Calls Try.prog 15 #[.int .i64 y, .int .i64 4] w fun e w' => e = .returned (.int .i64 30) ∧ w = w' := by
 have hx : ∀ W : World, (Instr.index 40 (.agg #[.int .i64 31, .int .i64 28, .int .i64 31, .int .i64 30, .int .i64 31, .int .i64 30, .int .i64 31, .int .i64 31, .int .i64 30, .int .i64 31, .int .i64 30, .int .i64 31]) (.int .i64 3)).run Try.prog W = .ok (.int .i64 30) W := fun W => run_index_arr (P := Try.prog) 40 3 12 mlens .i64 3 (.int .i64 30) W Try.underlying40 (by omega) rfl size_int agg_int
 go_enter Try.func15, Try.ntmps15
 go_wp2
 go_ret
 exact ⟨rfl, rfl⟩
theorem rdays_5 (y : Int) (w : World) (h0 : 1900 ≤ y) (h1 : y ≤ 2199) : Calls Try.prog 15 #[.int .i64 y, .int .i64 5] w fun e w' => e = .returned (.int .i64 31) ∧ w = w' := by
 have hx : ∀ W : World, (Instr.index 40 (.agg #[.int .i64 31, .int .i64 28, .int .i64 31, .int .i64 30, .int .i64 31, .int .i64 30, .int .i64 31, .int .i64 31, .int .i64 30, .int .i64 31, .int .i64 30, .int .i64 31]) (.int .i64 4)).run Try.prog W = .ok (.int .i64 31) W := fun W => run_index_arr (P := Try.prog) 40 3 12 mlens .i64 4 (.int .i64 31) W Try.underlying40 (by omega) rfl size_int agg_int
 go_enter Try.func15, Try.ntmps15
 go_wp2
 go_ret
 exact ⟨rfl, rfl⟩
theorem rdays_6 (y : Int) (w : World) (h0 : 1900 ≤ y) (h1 : y ≤ 2199) : Calls Try.prog 15 #[.int .i64 y, .int .i64 6] w fun e w' => e = .returned (.int .i64 30) ∧ w = w' := by
 have hx : ∀ W : World, (Instr.index 40 (.agg #[.int .i64 31, .int .i64 28, .int .i64 31, .int .i64 30, .int .i64 31, .int .i64 30, .int .i64 31, .int .i64 31, .int .i64 30, .int .i64 31, .int .i64 30, .int .i64 31]) (.int .i64 5)).run Try.prog W = .ok (.int .i64 30) W := fun W => run_index_arr (P := Try.prog) 40 3 12 mlens .i64 5 (.int .i64 30) W Try.underlying40 (by omega) rfl size_int agg_int
 go_enter Try.func15, Try.ntmps15
 go_wp2
 go_ret
 exact ⟨rfl, rfl⟩
theorem rdays_7 (y : Int) (w : World) (h0 : 1900 ≤ y) (h1 : y ≤ 2199) : Calls Try.prog 15 #[.int .i64 y, .int .i64 7] w fun e w' => e = .returned (.int .i64 31) ∧ w = w' := by
 have hx : ∀ W : World, (Instr.index 40 (.agg #[.int .i64 31, .int .i64 28, .int .i64 31, .int .i64 30, .int .i64 31, .int .i64 30, .int .i64 31, .int .i64 31, .int .i64 30, .int .i64 31, .int .i64 30, .int .i64 31]) (.int .i64 6)).run Try.prog W = .ok (.int .i64 31) W := fun W => run_index_arr (P := Try.prog) 40 3 12 mlens .i64 6 (.int .i64 31) W Try.underlying40 (by omega) rfl size_int agg_int
 go_enter Try.func15, Try.ntmps15
 go_wp2
 go_ret
 exact ⟨rfl, rfl⟩
theorem rdays_8 (y : Int) (w : World) (h0 : 1900 ≤ y) (h1 : y ≤ 2199) : Calls Try.prog 15 #[.int .i64 y, .int .i64 8] w fun e w' => e = .returned (.int .i64 31) ∧ w = w' := by
 have hx : ∀ W : World, (Instr.index 40 (.agg #[.int .i64 31, .int .i64 28, .int .i64 31, .int .i64 30, .int .i64 31, .int .i64 30, .int .i64 31, .int .i64 31, .int .i64 30, .int .i64 31, .int .i64 30, .int .i64 31]) (.int .i64 7)).run Try.prog W = .ok (.int .i64 31) W := fun W => run_index_arr (P := Try.prog) 40 3 12 mlens .i64 7 (.int .i64 31) W Try.underlying40 (by omega) rfl size_int agg_int
 go_enter Try.func15, Try.ntmps15
 go_wp2
 go_ret
 exact ⟨rfl, rfl⟩
theorem rdays_9 (y : Int) (w : World) (h0 : 1900 ≤ y) (h1 : y ≤ 2199) : Calls Try.prog 15 #[.int .i64 y, .int .i64 9] w fun e w' => e = .returned (.int .i64 30) ∧ w = w' := by
 have hx : ∀ W : World, (Instr.index 40 (.agg #[.int .i64 31, .int .i64 28, .int .i64 31, .int .i64 30, .int .i64 31, .int .i64 30, .int .i64 31, .int .i64 31, .int .i64 30, .int .i64 31, .int .i64 30, .int .i64 31]) (.int .i64 8)).run Try.prog W = .ok (.int .i64 30) W := fun W => run_index_arr (P := Try.prog) 40 3 12 mlens .i64 8 (.int .i64 30) W Try.underlying40 (by omega) rfl size_int agg_int
 go_enter Try.func15, Try.ntmps15
 go_wp2
 go_ret
 exact ⟨rfl, rfl⟩
theorem rdays_10 (y : Int) (w : World) (h0 : 1900 ≤ y) (h1 : y ≤ 2199) : Calls Try.prog 15 #[.int .i64 y, .int .i64 10] w fun e w' => e = .returned (.int .i64 31) ∧ w = w' := by
 have hx : ∀ W : World, (Instr.index 40 (.agg #[.int .i64 31, .int .i64 28, .int .i64 31, .int .i64 30, .int .i64 31, .int .i64 30, .int .i64 31, .int .i64 31, .int .i64 30, .int .i64 31, .int .i64 30, .int .i64 31]) (.int .i64 9)).run Try.prog W = .ok (.int .i64 31) W := fun W => run_index_arr (P := Try.prog) 40 3 12 mlens .i64 9 (.int .i64 31) W Try.underlying40 (by omega) rfl size_int agg_int
 go_enter Try.func15, Try.ntmps15
 go_wp2
 go_ret
 exact ⟨rfl, rfl⟩
theorem rdays_11 (y : Int) (w : World) (h0 : 1900 ≤ y) (h1 : y ≤ 2199) : Calls Try.prog 15 #[.int .i64 y, .int .i64 11] w fun e w' => e = .returned (.int .i64 30) ∧ w = w' := by
 have hx : ∀ W : World, (Instr.index 40 (.agg #[.int .i64 31, .int .i64 28, .int .i64 31, .int .i64 30, .int .i64 31, .int .i64 30, .int .i64 31, .int .i64 31, .int .i64 30, .int .i64 31, .int .i64 30, .int .i64 31]) (.int .i64 10)).run Try.prog W = .ok (.int .i64 30) W := fun W => run_index_arr (P := Try.prog) 40 3 12 mlens .i64 10 (.int .i64 30) W Try.underlying40 (by omega) rfl size_int agg_int
 go_enter Try.func15, Try.ntmps15
 go_wp2
 go_ret
 exact ⟨rfl, rfl⟩
theorem rdays_12 (y : Int) (w : World) (h0 : 1900 ≤ y) (h1 : y ≤ 2199) : Calls Try.prog 15 #[.int .i64 y, .int .i64 12] w fun e w' => e = .returned (.int .i64 31) ∧ w = w' := by
 have hx : ∀ W : World, (Instr.index 40 (.agg #[.int .i64 31, .int .i64 28, .int .i64 31, .int .i64 30, .int .i64 31, .int .i64 30, .int .i64 31, .int .i64 31, .int .i64 30, .int .i64 31, .int .i64 30, .int .i64 31]) (.int .i64 11)).run Try.prog W = .ok (.int .i64 31) W := fun W => run_index_arr (P := Try.prog) 40 3 12 mlens .i64 11 (.int .i64 31) W Try.underlying40 (by omega) rfl size_int agg_int
 go_enter Try.func15, Try.ntmps15
 go_wp2
 go_ret
 exact ⟨rfl, rfl⟩
theorem rdays_any (y m : Int) (w : World) : Calls Try.prog 15 #[.int .i64 y, .int .i64 m] w fun e w' => e = .returned (.int .i64 (dys y m)) ∧ w = w' := by
 cases h : inYM y m
 ·rw [dys_out h]; exact rdays_out y m w h
 ·rw [dys_in h]
  obtain ⟨a, b, c, d⟩ := inYM_iff.1 h
  clear h
  rcases twelve c d with rfl | rfl | rfl | rfl | rfl | rfl | rfl | rfl | rfl | rfl | rfl | rfl
  ·exact rdays_1 y w a b
  ·exact rdays_two y w a b
  ·exact rdays_3 y w a b
  ·exact rdays_4 y w a b
  ·exact rdays_5 y w a b
  ·exact rdays_6 y w a b
  ·exact rdays_7 y w a b
  ·exact rdays_8 y w a b
  ·exact rdays_9 y w a b
  ·exact rdays_10 y w a b
  ·exact rdays_11 y w a b
  ·exact rdays_12 y w a b
theorem civ_no (n : Int) (w : World) (h : vdB n = false) : Calls Try.prog 16 #[.int .i64 n] w fun e w' => e = .returned (.tuple #[.int .i64 0, .int .i64 0, .int .i64 0, .int .i64 2]) ∧ w = w' := by
 have hv := fun w => vd_any n w
 rw [h] at hv
 have HV := Lib.hid hv
 clear hv h
 go_enter Try.func16, Try.ntmps16
 go_wp2_with (go_at_call 18; refine (HV.out _).mono ?_; rintro e w' ⟨rfl, rfl⟩)
 exact bodyPost_ret (v := .tuple #[.int .i64 0, .int .i64 0, .int .i64 0, .int .i64 2]) (by simp [results, Try.results16, go_sem]) rfl ⟨rfl, rfl⟩
theorem civ_loop {n y m d : Int} (h : IsCiv n y m d) {b : Int} (b0 : 1 ≤ b) (b1 : b ≤ m) : (b < m → mdy y b < n - nyr y - mon y b + 1) ∧ (b = m → ¬ mdy y b < n - nyr y - mon y b + 1) := by
 obtain ⟨y0, y1, m0, m1, d0, d1, rfl⟩ := h
 unfold dno
 constructor
 ·intro hlt
  have h1 := mon_succ y b b0 (by omega)
  have h2 := mon_mono (y := y) (m := b + 1) (n := m) (by omega) (by omega) (by omega)
  omega
 ·rintro rfl
  omega
theorem civ_yes (n y m d : Int) (w : World) (h : IsCiv n y m d) : Calls Try.prog 16 #[.int .i64 n] w fun e w' => e = .returned (.tuple #[.int .i64 y, .int .i64 m, .int .i64 d, .int .i64 0]) ∧ Below w.heap.size w w' := by
 have hv := fun w => vd_any n w
 have hv1 := vdB_iff.2 h.bd
 rw [hv1] at hv
 have HV := Lib.hid hv
 obtain ⟨n0, n1⟩ := h.bd
 obtain ⟨c0, c1, c2, c3⟩ := civY_bd n0 n1
 have hY := (civ_eq h).1
 have HC := Lib.hid h
 have hd : n - nyr y - mon y m + 1 = d := by have := h.eq; unfold dno at this; omega
 obtain ⟨y0, y1, m0, m1, d0, d1, -⟩ := h
 have hB := Below.refl w.heap.size w
 have e0 : civY0 n = 1900 + (n + 25567) / 365 := rfl
 have k0 : 1900 ≤ civY0 n := by omega
 have k1 : civY0 n ≤ 2200 := by omega
 have e1 : civY n = if n < nyr (civY0 n) then civY0 n - 1 else civY0 n := rfl
 clear hv hv1
 by_cases hg : n < nyr (civY0 n)
 ·rw [if_pos hg] at e1
  have e2 : civY0 n - 1 = y := by omega
  rw [e0] at hg e2 k0 k1
  have k2 : -25567 ≤ nyr (1900 + (n + 25567) / 365) ∧ nyr (1900 + (n + 25567) / 365) ≤ 84006 := nyr_bd k0 (by omega)
  have k3 : 1900 ≤ 1900 + (n + 25567) / 365 - 1 := by omega
  have k4 : -25567 ≤ nyr (1900 + (n + 25567) / 365 - 1) ∧ nyr (1900 + (n + 25567) / 365 - 1) ≤ 84006 := nyr_bd k3 (by omega)
  have E2 := Lib.hid e2
  have HD := Lib.hid hd
  clear e0 e1 e2 hY hd
  go_enter Try.func16, Try.ntmps16
  go_wp2_with (first | (go_at_call 18; refine (HV.out _).mono ?_; rintro e w' ⟨rfl, rfl⟩) | (go_at_call 28; refine (newYear_any _ _ (by omega) (by omega)).mono ?_; rintro e w' ⟨rfl, rfl⟩))
  rw [E2.out]
  go_loopw [3, 4] (fun v1 v2 w1 => ∃ b : Int, 1 ≤ b ∧ b ≤ m ∧ v1 = .int .i64 b ∧ v2 = .int .i64 (n - nyr y - mon y b + 1) ∧ Below w.heap.size w w1) (fun v1 v2 w1 => (m - intOf v1).toNat)
  case atStart => exact ⟨1, by omega, by omega, rfl, by rw [mon_1]; go_num, hB⟩
  case round =>
   obtain ⟨b, b0, b1, rfl, rfl, hB1⟩ := hrel
   have hm := mon_bd (y := y) (m := b) (by omega) (by omega)
   have hlp := lpI_01 y
   have hnb := nyr_bd (y := y) (by omega) (by omega)
   have hL := civ_loop HC.out b0 b1
   have hb0 := mdy_bd y b
   have hi : inYM y b = true := inYM_iff.2 ⟨by omega, by omega, by omega, by omega⟩
   have hy := fun w => days_any y b w
   rw [dys_in hi] at hy
   have HY := Lib.hid hy
   clear hy hi
   by_cases hlt : b < m
   ·have hs := mon_succ y b (by omega) (by omega)
    have hL2 := hL.1 hlt
    have HS := Lib.hid hs
    clear hs hL
    go_wp2_with (go_at_call 14; refine (HY.out _).mono ?_; rintro e w' ⟨rfl, hb⟩; replace hB1 := below_more hB1 hb; clear hb)
    go_roundw
    case rel => exact ⟨b + 1, by omega, by omega, rfl, by rw [HS.out]; go_num, hB1⟩
    case measure => simp [intOf]; omega
   ·obtain rfl : b = m := by omega
    have hL2 := hL.2 rfl
    clear hL hlt
    go_wp2_with (go_at_call 14; refine (HY.out _).mono ?_; rintro e w' ⟨rfl, hb⟩; replace hB1 := below_more hB1 hb; clear hb)
    exact bodyPost_ret (v := .tuple #[.int .i64 y, .int .i64 b, .int .i64 (n - nyr y - mon y b + 1), .int .i64 0]) (by simp [results, Try.results16, go_sem]) rfl ⟨by rw [HD.out], hB1⟩
 ·rw [if_neg hg] at e1
  have e2 : civY0 n = y := by omega
  rw [e0] at hg e2 k0 k1
  have k2 : -25567 ≤ nyr (1900 + (n + 25567) / 365) ∧ nyr (1900 + (n + 25567) / 365) ≤ 84006 := nyr_bd k0 (by omega)
  have E2 := Lib.hid e2
  have HD := Lib.hid hd
  clear e0 e1 e2 hY hd
  go_enter Try.func16, Try.ntmps16
  go_wp2_with (first | (go_at_call 18; refine (HV.out _).mono ?_; rintro e w' ⟨rfl, rfl⟩) | (go_at_call 28; refine (newYear_any _ _ (by omega) (by omega)).mono ?_; rintro e w' ⟨rfl, rfl⟩))
  rw [E2.out]
  go_loopw [3, 4] (fun v1 v2 w1 => ∃ b : Int, 1 ≤ b ∧ b ≤ m ∧ v1 = .int .i64 b ∧ v2 = .int .i64 (n - nyr y - mon y b + 1) ∧ Below w.heap.size w w1) (fun v1 v2 w1 => (m - intOf v1).toNat)
  case atStart => exact ⟨1, by omega, by omega, rfl, by rw [mon_1]; go_num, hB⟩
  case round =>
   obtain ⟨b, b0, b1, rfl, rfl, hB1⟩ := hrel
   have hm := mon_bd (y := y) (m := b) (by omega) (by omega)
   have hlp := lpI_01 y
   have hnb := nyr_bd (y := y) (by omega) (by omega)
   have hL := civ_loop HC.out b0 b1
   have hb0 := mdy_bd y b
   have hi : inYM y b = true := inYM_iff.2 ⟨by omega, by omega, by omega, by omega⟩
   have hy := fun w => days_any y b w
   rw [dys_in hi] at hy
   have HY := Lib.hid hy
   clear hy hi
   by_cases hlt : b < m
   ·have hs := mon_succ y b (by omega) (by omega)
    have hL2 := hL.1 hlt
    have HS := Lib.hid hs
    clear hs hL
    go_wp2_with (go_at_call 14; refine (HY.out _).mono ?_; rintro e w' ⟨rfl, hb⟩; replace hB1 := below_more hB1 hb; clear hb)
    go_roundw
    case rel => exact ⟨b + 1, by omega, by omega, rfl, by rw [HS.out]; go_num, hB1⟩
    case measure => simp [intOf]; omega
   ·obtain rfl : b = m := by omega
    have hL2 := hL.2 rfl
    clear hL hlt
    go_wp2_with (go_at_call 14; refine (HY.out _).mono ?_; rintro e w' ⟨rfl, hb⟩; replace hB1 := below_more hB1 hb; clear hb)
    exact bodyPost_ret (v := .tuple #[.int .i64 y, .int .i64 b, .int .i64 (n - nyr y - mon y b + 1), .int .i64 0]) (by simp [results, Try.results16, go_sem]) rfl ⟨by rw [HD.out], hB1⟩
theorem civ_any (n : Int) (w : World) (h : vdB n = true) : Calls Try.prog 16 #[.int .i64 n] w fun e w' => e = .returned (.tuple #[.int .i64 (civY n), .int .i64 (civM n), .int .i64 (civD n), .int .i64 0]) ∧ Below w.heap.size w w' := civ_yes n _ _ _ w (civ_is h)
theorem rciv_no (n : Int) (w : World) (h : vdB n = false) : Calls Try.prog 17 #[.int .i64 n] w fun e w' => e = .returned (.tuple #[.int .i64 0, .int .i64 0, .int .i64 0, .int .i64 2]) ∧ w = w' := by
 have hv := fun w => rvd_any n w
 rw [h] at hv
 have HV := Lib.hid hv
 clear hv h
 go_enter Try.func17, Try.ntmps17
 go_wp2_with (go_at_call 21; refine (HV.out _).mono ?_; rintro e w' ⟨rfl, rfl⟩)
 exact bodyPost_ret (v := .tuple #[.int .i64 0, .int .i64 0, .int .i64 0, .int .i64 2]) (by simp [results, Try.results17, go_sem]) rfl ⟨rfl, rfl⟩
theorem rciv_year {n y m d : Int} (h : IsCiv n y m d) {a : Int} (a0 : 1900 ≤ a) (a1 : a ≤ y) : (a < y → 365 + lpI a ≤ n - nyr a) ∧ (a = y → n - nyr a < 365 + lpI a ∧ 0 ≤ n - nyr a) ∧ 0 ≤ n - nyr a := by
 have hy := h.yr
 have hs := nyr_succ a a0
 refine ⟨fun hlt => ?_, ?_, ?_⟩
 ·have h1 := nyr_mono (y := a + 1) (z := y) (by omega) (by omega)
  omega
 ·rintro rfl
  omega
 ·have h1 := nyr_mono (y := a) (z := y) (by omega) (by omega)
  omega
theorem rciv_yes (n y m d : Int) (w : World) (h : IsCiv n y m d) : Calls Try.prog 17 #[.int .i64 n] w fun e w' => e = .returned (.tuple #[.int .i64 y, .int .i64 m, .int .i64 d, .int .i64 0]) ∧ w = w' := by
 have hv := fun w => rvd_any n w
 have hv1 := vdB_iff.2 h.bd
 rw [hv1] at hv
 have HV := Lib.hid hv
 have HC := Lib.hid h
 obtain ⟨n0, n1⟩ := h.bd
 have hd : n - nyr y - mon y m + 1 = d := by have := h.eq; unfold dno at this; omega
 have HD := Lib.hid hd
 obtain ⟨y0, y1, m0, m1, d0, d1, -⟩ := h
 clear hv hv1 hd
 go_enter Try.func17, Try.ntmps17
 go_wp2_with (go_at_call 21; refine (HV.out _).mono ?_; rintro e w' ⟨rfl, rfl⟩)
 go_loop [6, 8] (fun v1 v2 => ∃ a : Int, 1900 ≤ a ∧ a ≤ y ∧ v1 = .int .i64 a ∧ v2 = .int .i64 (n - nyr a)) (fun v1 v2 => (y - intOf v1).toNat)
 case atStart => exact ⟨1900, by omega, by omega, rfl, by rw [nyr_1900]; go_num⟩
 case round =>
  obtain ⟨a, a0, a1, rfl, rfl⟩ := hrel
  obtain ⟨hA1, hA2, hA3⟩ := rciv_year HC.out a0 a1
  have hab := nyr_bd (y := a) (by omega) (by omega)
  have hs := nyr_succ a (by omega)
  have hi := fun w => rleap_any a w (by omega)
  by_cases hlt : a < y
  ·replace hA1 := hA1 hlt
   clear hA2
   unfold lpI at hs hA1
   have HS := Lib.hid hs
   clear hs
   cases hl : lpB a
   all_goals
    rw [hl] at hi HS hA1
    have HI := Lib.hid hi
    clear hi hl
    simp only [Bool.false_eq_true, if_false, if_true] at hA1
    go_wp2_with (go_at_call 29; refine (HI.out _).mono ?_; rintro e w' ⟨rfl, rfl⟩)
    go_round
    case rel => exact ⟨a + 1, by omega, by omega, rfl, by rw [HS.out]; go_num⟩
    case measure => simp [intOf]; omega
  ·obtain rfl : a = y := by omega
   obtain ⟨hA4, -⟩ := hA2 rfl
   clear hA2 hA1 hs hlt
   have hlp := lpI_01 a
   have hfin : ∀ (P : Prop), P → P := fun _ h => h
   unfold lpI at hA4
   cases hl : lpB a
   all_goals
    rw [hl] at hi hA4
    have HI := Lib.hid hi
    clear hi hl hfin
    simp only [Bool.false_eq_true, if_false, if_true] at hA4
    go_wp2_with (go_at_call 29; refine (HI.out _).mono ?_; rintro e w' ⟨rfl, rfl⟩)
    go_loop [7, 8] (fun v1 v2 => ∃ b : Int, 1 ≤ b ∧ b ≤ m ∧ v1 = .int .i64 b ∧ v2 = .int .i64 (n - nyr a - mon a b)) (fun v1 v2 => (m - intOf v1).toNat)
    case atStart => exact ⟨1, by omega, by omega, rfl, by rw [mon_1]; go_num⟩
    case round =>
     obtain ⟨b, b0, b1, rfl, rfl⟩ := hrel
     have hm := mon_bd (y := a) (m := b) (by omega) (by omega)
     have hL := civ_loop HC.out b0 b1
     have hb0 := mdy_bd a b
     have hi : inYM a b = true := inYM_iff.2 ⟨by omega, by omega, by omega, by omega⟩
     have hy := fun w => rdays_any a b w
     rw [dys_in hi] at hy
     have HY := Lib.hid hy
     clear hy hi
     by_cases hlt : b < m
     ·have hs := mon_succ a b (by omega) (by omega)
      have hL2 : mdy a b ≤ n - nyr a - mon a b := by have := hL.1 hlt; omega
      have HS := Lib.hid hs
      clear hs hL
      go_wp2_with (go_at_call 15; refine (HY.out _).mono ?_; rintro e w' ⟨rfl, rfl⟩)
      go_round
      case rel => exact ⟨b + 1, by omega, by omega, rfl, by rw [HS.out]; go_num⟩
      case measure => simp [intOf]; omega
     ·obtain rfl : b = m := by omega
      have hL2 : n - nyr a - mon a b < mdy a b := by have := hL.2 rfl; omega
      clear hL hlt
      go_wp2_with (go_at_call 15; refine (HY.out _).mono ?_; rintro e w' ⟨rfl, rfl⟩)
      exact bodyPost_ret (v := .tuple #[.int .i64 a, .int .i64 b, .int .i64 (n - nyr a - mon a b + 1), .int .i64 0]) (by simp [results, Try.results17, go_sem]) rfl ⟨by rw [HD.out], rfl⟩
theorem rciv_any (n : Int) (w : World) (h : vdB n = true) : Calls Try.prog 17 #[.int .i64 n] w fun e w' => e = .returned (.tuple #[.int .i64 (civY n), .int .i64 (civM n), .int .i64 (civD n), .int .i64 0]) ∧ w = w' := rciv_yes n _ _ _ w (civ_is h)
theorem of_civ {n y m d : Int} (h : IsCiv n y m d) : ofN y m d = n ∧ ofE y m d = 0 := by
 unfold ofN ofE
 rw [dayB_of h]
 exact ⟨h.eq.symm, rfl⟩
theorem law_dciv (n : Int) (w : World) : Calls Try.prog 4 #[.int .i64 n] w fun e w' => e = .returned (.bool true) ∧ Below w.heap.size w w' := by
 have hB := Below.refl w.heap.size w
 have h3 := fun w => vd_any n w
 cases h : vdB n
 ·have h1 := fun w => civ_no n w h
  have h2 := fun w => rciv_no n w h
  rw [h] at h3
  have H1 := Lib.hid h1
  have H2 := Lib.hid h2
  have H3 := Lib.hid h3
  clear h1 h2 h3 h
  go_enter Try.func4, Try.ntmps4
  go_wp2_with (first | (go_at_call 11; refine (dtawake_any _).mono ?_; rintro e w' ⟨rfl, hb⟩; replace hB := below_more hB hb; clear hb) | (go_at_call 12; refine (dtof_any _ _ _ _).mono ?_; rintro e w' ⟨rfl, hb⟩; replace hB := below_more hB hb; clear hb) | (go_at_call 16; refine (H1.out _).mono ?_; rintro e w' ⟨rfl, rfl⟩) | (go_at_call 17; refine (H2.out _).mono ?_; rintro e w' ⟨rfl, rfl⟩) | (go_at_call 18; refine (H3.out _).mono ?_; rintro e w' ⟨rfl, rfl⟩))
  go_ret
  exact ⟨rfl, hB⟩
 ·have h1 := fun w => civ_any n w h
  have h2 := fun w => rciv_any n w h
  rw [h] at h3
  have hc := civ_is h
  generalize civY n = y at *
  generalize civM n = m at *
  generalize civD n = d at *
  obtain ⟨e1, e2⟩ := of_civ hc
  have h4 := fun w => dtof_any y m d w
  rw [e1, e2] at h4
  have H1 := Lib.hid h1
  have H2 := Lib.hid h2
  have H3 := Lib.hid h3
  have H4 := Lib.hid h4
  clear h1 h2 h3 h4 h hc e1 e2
  go_enter Try.func4, Try.ntmps4
  go_wp2_with (first | (go_at_call 11; refine (dtawake_any _).mono ?_; rintro e w' ⟨rfl, hb⟩; replace hB := below_more hB hb; clear hb) | (go_at_call 12; refine (H4.out _).mono ?_; rintro e w' ⟨rfl, hb⟩; replace hB := below_more hB hb; clear hb) | (go_at_call 16; refine (H1.out _).mono ?_; rintro e w' ⟨rfl, hb⟩; replace hB := below_more hB hb; clear hb) | (go_at_call 17; refine (H2.out _).mono ?_; rintro e w' ⟨rfl, rfl⟩) | (go_at_call 18; refine (H3.out _).mono ?_; rintro e w' ⟨rfl, rfl⟩))
  go_ret
  exact ⟨rfl, hB⟩
end Go.Proofs.Yteejefeociclbaa
