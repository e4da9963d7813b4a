/- Contracts and the law of DateParse, part 1: what was proved of each, callees first. -/
import Derived.Test.YteejefeociclbaaProg
import Derived.WalkKit
import Derived.WalkSpells
import Derived.Lib.Hide
import Derived.Deep.QuietTactic
import Derived.BigQuiet
import Derived.LoopTactic
import Derived.Laws.Cells
import Derived.Below
import Derived.Deep.Draws
import Derived.Laws.Rows
import Derived.Laws.CopyOwn
import Derived.Deep.OwnRows
import Derived.Outline
import Derived.Lib.ItoaNum
import Derived.Laws.BytesString
import Derived.Laws.RangeAny
import Derived.Laws.DeepStrings4
import Derived.Lib.Strings
import Derived.Test.YteejefeociclbaaDK1
namespace Go.Proofs.Yteejefeociclbaa
theorem IsCiv.yr {n y m d : Int} (h : IsCiv n y m d) : nyr y ≤ n ∧ n < nyr (y + 1) := by
 obtain ⟨a, b, c, e, f, g, rfl⟩ := h
 have h1 := nyr_succ y a
 have h2 := mon_succ y m c e
 have h3 := mon_bd (y := y) (m := m + 1) (by omega) (by omega)
 have h4 := mon_bd (y := y) (m := m) (by omega) (by omega)
 unfold dno
 omega
theorem IsCiv.bd {n y m d : Int} (h : IsCiv n y m d) : -25567 ≤ n ∧ n ≤ 84005 := by
 have h1 := h.yr
 have h2 := nyr_bd h.y0 (by have := h.y1; omega)
 have h3 := nyr_bd (y := y + 1) (by have := h.y0; omega) (by have := h.y1; omega)
 omega
theorem IsCiv.uniq {n y m d y' m' d' : Int} (h : IsCiv n y m d) (h' : IsCiv n y' m' d') : y = y' ∧ m = m' ∧ d = d' := by
 have hy := h.yr
 have hy' := h'.yr
 obtain ⟨a, b, c, e, f, g, k⟩ := h
 obtain ⟨a', b', c', e', f', g', k'⟩ := h'
 have e1 : y = y' := by
  rcases Int.lt_trichotomy y y' with hl | hl | hl
  ·have := nyr_mono (y := y + 1) (z := y') (by omega) (by omega); omega
  ·exact hl
  ·have := nyr_mono (y := y' + 1) (z := y) (by omega) (by omega); omega
 subst e1
 unfold dno at k k'
 have s := mon_succ y m c e
 have s' := mon_succ y m' c' e'
 have e2 : m = m' := by
  rcases Int.lt_trichotomy m m' with hl | hl | hl
  ·have := mon_mono (y := y) (m := m + 1) (n := m') (by omega) (by omega) (by omega); omega
  ·exact hl
  ·have := mon_mono (y := y) (m := m' + 1) (n := m) (by omega) (by omega) (by omega); omega
 subst e2
 exact ⟨rfl, rfl, by omega⟩

/- The year, the month and the day of a number of days. -/
def civY0 (n : Int) : Int := 1900 + (n + 25567) / 365
def civY (n : Int) : Int := if n < nyr (civY0 n) then civY0 n - 1 else civY0 n
def civR (n : Int) : Int := n - nyr (civY n)
def monOf (l r : Int) : Int := if r < 31 then 1 else if r < 59 + l then 2 else if r < 90 + l then 3 else if r < 120 + l then 4 else if r < 151 + l then 5 else if r < 181 + l then 6 else if r < 212 + l then 7 else if r < 243 + l then 8 else if r < 273 + l then 9 else if r < 304 + l then 10 else if r < 334 + l then 11 else 12
def civM (n : Int) : Int := monOf (lpI (civY n)) (civR n)
def civD (n : Int) : Int := civR n - mon (civY n) (civM n) + 1
theorem civY_bd {n : Int} (h0 : -25567 ≤ n) (h1 : n ≤ 84005) : 1900 ≤ civY n ∧ civY n ≤ 2199 ∧ nyr (civY n) ≤ n ∧ n < nyr (civY n + 1) := by
 unfold civY
 have e : civY0 n = 1900 + (n + 25567) / 365 := rfl
 have hk0 : 1900 ≤ civY0 n := by omega
 have hk1 : civY0 n ≤ 2200 := by omega
 have b0 := lpN_bd hk0 (by omega)
 have u : nyr (civY0 n) = -25567 + 365 * (civY0 n - 1900) + lpN (civY0 n) - 460 := rfl
 split
 ·rename_i hlt
  have hk2 : 1901 ≤ civY0 n := by
   rcases Int.lt_or_le (civY0 n) 1901 with hc | hc
   ·have hc2 : civY0 n = 1900 := by omega
    rw [hc2, nyr_1900] at hlt
    omega
   ·exact hc
  have s := nyr_succ (civY0 n - 1) (by omega)
  rw [show civY0 n - 1 + 1 = civY0 n by omega] at s ⊢
  have l := lpI_01 (civY0 n - 1)
  refine ⟨by omega, by omega, by omega, by omega⟩
 ·rename_i hge
  have s := nyr_succ (civY0 n) (by omega)
  have l := lpI_01 (civY0 n)
  refine ⟨by omega, ?_, by omega, by omega⟩
  rcases Int.lt_or_le 2199 (civY0 n) with hc | hc
  ·have hc2 : civY0 n = 2200 := by omega
   rw [hc2, nyr_2200] at hge
   omega
  ·exact hc
theorem monOf_is {l r : Int} (y : Int) (hl : lpI y = l) (h0 : 0 ≤ r) (h1 : r < 365 + l) : (1 ≤ monOf l r ∧ monOf l r ≤ 12) ∧ mon y (monOf l r) ≤ r ∧ r < mon y (monOf l r) + mdy y (monOf l r) := by
 have h01 := lpI_01 y
 rw [hl] at h01
 unfold monOf
 repeat' split
 all_goals (simp [mon, mdy, hl]; omega)
theorem civ_is {n : Int} (h : vdB n = true) : IsCiv n (civY n) (civM n) (civD n) := by
 obtain ⟨h0, h1⟩ := vdB_iff.1 h
 obtain ⟨a, b, c, d⟩ := civY_bd h0 h1
 have s := nyr_succ (civY n) a
 have r0 : 0 ≤ civR n := by unfold civR; omega
 have r1 : civR n < 365 + lpI (civY n) := by unfold civR; omega
 obtain ⟨⟨m0, m1⟩, k0, k1⟩ := monOf_is (civY n) rfl r0 r1
 have em : civM n = monOf (lpI (civY n)) (civR n) := rfl
 rw [← em] at m0 m1 k0 k1
 have ed : civD n = civR n - mon (civY n) (civM n) + 1 := rfl
 have er : civR n = n - nyr (civY n) := rfl
 refine ⟨a, b, m0, m1, by omega, by omega, ?_⟩
 unfold dno
 omega
theorem civ_eq {n y m d : Int} (h : IsCiv n y m d) : civY n = y ∧ civM n = m ∧ civD n = d :=
 (civ_is (vdB_iff.2 h.bd)).uniq h
open Go.RowKit
theorem rleap_any (y : Int) (w : World) (h0 : 0 ≤ y) : Calls Try.prog 29 #[.int .i64 y] w fun e w' => e = .returned (.bool (lpB y)) ∧ w = w' := by
 rw [lpB_eq]
 cases h1 : (y % 4 == 0)
 ·go_enter Try.func29, Try.ntmps29
  go_wp2
  go_ret
  exact ⟨rfl, rfl⟩
 ·cases h2 : (y % 100 == 0)
  ·have h2' : (y % 100 != 0) = true := by rw [bne, h2]; rfl
   rw [h2']
   go_enter Try.func29, Try.ntmps29
   go_wp2
   go_ret
   exact ⟨rfl, rfl⟩
  ·have h2' : (y % 100 != 0) = false := by rw [bne, h2]; rfl
   rw [h2']
   go_enter Try.func29, Try.ntmps29
   go_wp2
   go_ret
   exact ⟨by simp, rfl⟩
def mlens : Array Value := #[.int .i64 31, .int .i64 28, .int .i64 31, .int .i64 30, .int .i64 31, .int .i64 30, .int .i64 31, .int .i64 31, .int .i64 30, .int .i64 31, .int .i64 30, .int .i64 31]
theorem run_index_arr {P : Program} (t e : TypeId) (n : Nat) (cs : Array Value) (k : IntKind) (i : Nat) (v : Value) (w : World) (h : P.underlying t = some (.array n e)) (hi : i < n) (hv : cs[i]? = some v)
  (hs : ∀ w, (sizeOf e).run P w = .ok 1 w) (ha : ∀ w, (isAgg e).run P w = .ok false w) :
  (Instr.index t (.agg cs) (.int k i)).run P w = .ok v w := by
 simp [Instr.index, run_underlying h, asIntOf, hv, hi, hs, ha, go_sem]
theorem size_int (w : World) : (sizeOf 3).run Try.prog w = .ok 1 w := by
 have h : Try.t3.size = 1 := by kernel_rfl
 simp [sizeOf, h, go_sem]
theorem agg_int (w : World) : (isAgg 3).run Try.prog w = .ok false w := by
 simp [isAgg, run_underlying Try.underlying3, go_sem]
theorem rdays_out (y m : Int) (w : World) (h : inYM y m = false) : Calls Try.prog 15 #[.int .i64 y, .int .i64 m] w fun e w' => e = .returned (.int .i64 0) ∧ w = w' := by
 have hx : m < 1 ∨ ¬ m < 1 ∧ 12 < m ∨ ¬ m < 1 ∧ ¬ 12 < m ∧ y < 1900 ∨ ¬ m < 1 ∧ ¬ 12 < m ∧ ¬ y < 1900 ∧ 2199 < y := by
  have h2 : ¬ (1900 ≤ y ∧ y ≤ 2199 ∧ 1 ≤ m ∧ m ≤ 12) := fun e => by rw [inYM_iff.2 e] at h; cases h
  omega
 clear h
 rcases hx with h1 | ⟨h0, h1⟩ | ⟨h0, h1, h2⟩ | ⟨h0, h1, h2, h3⟩
 all_goals
  go_enter Try.func15, Try.ntmps15
  go_wp2
  go_ret
  exact ⟨rfl, rfl⟩
theorem rdays_two (y : Int) (w : World) (h0 : 1900 ≤ y) (h1 : y ≤ 2199) : Calls Try.prog 15 #[.int .i64 y, .int .i64 2] w fun e w' => e = .returned (.int .i64 (28 + lpI y)) ∧ w = w' := by
 have hi := fun w => rleap_any y w (by omega)
 unfold lpI
 cases hl : lpB y
 all_goals
  rw [hl] at hi
  have HI := Lib.hid hi
  clear hi hl
  have hx : ∀ W : World, (Instr.index 40 (.agg #[.int .i64 31, .int .i64 28, .int .i64 31, .int .i64 30, .int .i64 31, .int .i64 30, .int .i64 31, .int .i64 31, .int .i64 30, .int .i64 31, .int .i64 30, .int .i64 31]) (.int .i64 1)).run Try.prog W = .ok (.int .i64 28) W := fun W => run_index_arr (P := Try.prog) 40 3 12 mlens .i64 1 (.int .i64 28) W Try.underlying40 (by omega) rfl size_int agg_int
  go_enter Try.func15, Try.ntmps15
  go_wp2_with (go_at_call 29; refine (HI.out _).mono ?_; rintro e w' ⟨rfl, rfl⟩)
  go_ret
  exact ⟨rfl, rfl⟩
theorem rdays_1 (y : Int) (w : World) (h0 : 1900 ≤ y) (h1 : y ≤ 2199) : Calls Try.prog 15 #[.int .i64 y, .int .i64 1] w fun e w' => e = .returned (.int .i64 31) ∧ w = w' := by
 have hx : ∀ W : World, (Instr.index 40 (.agg #[.int .i64 31, .int .i64 28, .int .i64 31, .int .i64 30, .int .i64 31, .int .i64 30, .int .i64 31, .int .i64 31, .int .i64 30, .int .i64 31, .int .i64 30, .int .i64 31]) (.int .i64 0)).run Try.prog W = .ok (.int .i64 31) W := fun W => run_index_arr (P := Try.prog) 40 3 12 mlens .i64 0 (.int .i64 31) W Try.underlying40 (by omega) rfl size_int agg_int
 go_enter Try.func15, Try.ntmps15
 go_wp2
 go_ret
 exact ⟨rfl, rfl⟩
theorem rdays_3 (y : Int) (w : World) (h0 : 1900 ≤ y) (h1 : y ≤ 2199) : Calls Try.prog 15 #[.int .i64 y, .int .i64 3] w fun e w' => e = .returned (.int .i64 31) ∧ w = w' := by
 have hx : ∀ W : World, (Instr.index 40 (.agg #[.int .i64 31, .int .i64 28, .int .i64 31, .int .i64 30, .int .i64 31, .int .i64 30, .int .i64 31, .int .i64 31, .int .i64 30, .int .i64 31, .int .i64 30, .int .i64 31]) (.int .i64 2)).run Try.prog W = .ok (.int .i64 31) W := fun W => run_index_arr (P := Try.prog) 40 3 12 mlens .i64 2 (.int .i64 31) W Try.underlying40 (by omega) rfl size_int agg_int
 go_enter Try.func15, Try.ntmps15
 go_wp2
 go_ret
 exact ⟨rfl, rfl⟩
theorem rdays_4 (y : Int) (w : World) (h0 : 1900 ≤ y) (h1 : y ≤ 2199) : Calls Try.prog 15 #[.int .i64 y, .int .i64 4] w fun e w' => e = .returned (.int .i64 30) ∧ w = w' := by
 have hx : ∀ W : World, (Instr.index 40 (.agg #[.int .i64 31, .int .i64 28, .int .i64 31, .int .i64 30, .int .i64 31, .int .i64 30, .int .i64 31, .int .i64 31, .int .i64 30, .int .i64 31, .int .i64 30, .int .i64 31]) (.int .i64 3)).run Try.prog W = .ok (.int .i64 30) W := fun W => run_index_arr (P := Try.prog) 40 3 12 mlens .i64 3 (.int .i64 30) W Try.underlying40 (by omega) rfl size_int agg_int
 go_enter Try.func15, Try.ntmps15
 go_wp2
 go_ret
 exact ⟨rfl, rfl⟩
theorem rdays_5 (y : Int) (w : World) (h0 : 1900 ≤ y) (h1 : y ≤ 2199) : Calls Try.prog 15 #[.int .i64 y, .int .i64 5] w fun e w' => e = .returned (.int .i64 31) ∧ w = w' := by
 have hx : ∀ W : World, (Instr.index 40 (.agg #[.int .i64 31, .int .i64 28, .int .i64 31, .int .i64 30, .int .i64 31, .int .i64 30, .int .i64 31, .int .i64 31, .int .i64 30, .int .i64 31, .int .i64 30, .int .i64 31]) (.int .i64 4)).run Try.prog W = .ok (.int .i64 31) W := fun W => run_index_arr (P := Try.prog) 40 3 12 mlens .i64 4 (.int .i64 31) W Try.underlying40 (by omega) rfl size_int agg_int
 go_enter Try.func15, Try.ntmps15
 go_wp2
 go_ret
 exact ⟨rfl, rfl⟩
theorem rdays_6 (y : Int) (w : World) (h0 : 1900 ≤ y) (h1 : y ≤ 2199) : Calls Try.prog 15 #[.int .i64 y, .int .i64 6] w fun e w' => e = .returned (.int .i64 30) ∧ w = w' := by
 have hx : ∀ W : World, (Instr.index 40 (.agg #[.int .i64 31, .int .i64 28, .int .i64 31, .int .i64 30, .int .i64 31, .int .i64 30, .int .i64 31, .int .i64 31, .int .i64 30, .int .i64 31, .int .i64 30, .int .i64 31]) (.int .i64 5)).run Try.prog W = .ok (.int .i64 30) W := fun W => run_index_arr (P := Try.prog) 40 3 12 mlens .i64 5 (.int .i64 30) W Try.underlying40 (by omega) rfl size_int agg_int
 go_enter Try.func15, Try.ntmps15
 go_wp2
 go_ret
 exact ⟨rfl, rfl⟩
theorem rdays_7 (y : Int) (w : World) (h0 : 1900 ≤ y) (h1 : y ≤ 2199) : Calls Try.prog 15 #[.int .i64 y, .int .i64 7] w fun e w' => e = .returned (.int .i64 31) ∧ w = w' := by
 have hx : ∀ W : World, (Instr.index 40 (.agg #[.int .i64 31, .int .i64 28, .int .i64 31, .int .i64 30, .int .i64 31, .int .i64 30, .int .i64 31, .int .i64 31, .int .i64 30, .int .i64 31, .int .i64 30, .int .i64 31]) (.int .i64 6)).run Try.prog W = .ok (.int .i64 31) W := fun W => run_index_arr (P := Try.prog) 40 3 12 mlens .i64 6 (.int .i64 31) W Try.underlying40 (by omega) rfl size_int agg_int
 go_enter Try.func15, Try.ntmps15
 go_wp2
 go_ret
 exact ⟨rfl, rfl⟩
theorem rdays_8 (y : Int) (w : World) (h0 : 1900 ≤ y) (h1 : y ≤ 2199) : Calls Try.prog 15 #[.int .i64 y, .int .i64 8] w fun e w' => e = .returned (.int .i64 31) ∧ w = w' := by
 have hx : ∀ W : World, (Instr.index 40 (.agg #[.int .i64 31, .int .i64 28, .int .i64 31, .int .i64 30, .int .i64 31, .int .i64 30, .int .i64 31, .int .i64 31, .int .i64 30, .int .i64 31, .int .i64 30, .int .i64 31]) (.int .i64 7)).run Try.prog W = .ok (.int .i64 31) W := fun W => run_index_arr (P := Try.prog) 40 3 12 mlens .i64 7 (.int .i64 31) W Try.underlying40 (by omega) rfl size_int agg_int
 go_enter Try.func15, Try.ntmps15
 go_wp2
 go_ret
 exact ⟨rfl, rfl⟩
theorem rdays_9 (y : Int) (w : World) (h0 : 1900 ≤ y) (h1 : y ≤ 2199) : Calls Try.prog 15 #[.int .i64 y, .int .i64 9] w fun e w' => e = .returned (.int .i64 30) ∧ w = w' := by
 have hx : ∀ W : World, (Instr.index 40 (.agg #[.int .i64 31, .int .i64 28, .int .i64 31, .int .i64 30, .int .i64 31, .int .i64 30, .int .i64 31, .int .i64 31, .int .i64 30, .int .i64 31, .int .i64 30, .int .i64 31]) (.int .i64 8)).run Try.prog W = .ok (.int .i64 30) W := fun W => run_index_arr (P := Try.prog) 40 3 12 mlens .i64 8 (.int .i64 30) W Try.underlying40 (by omega) rfl size_int agg_int
 go_enter Try.func15, Try.ntmps15
 go_wp2
 go_ret
 exact ⟨rfl, rfl⟩
theorem rdays_10 (y : Int) (w : World) (h0 : 1900 ≤ y) (h1 : y ≤ 2199) : Calls Try.prog 15 #[.int .i64 y, .int .i64 10] w fun e w' => e = .returned (.int .i64 31) ∧ w = w' := by
 have hx : ∀ W : World, (Instr.index 40 (.agg #[.int .i64 31, .int .i64 28, .int .i64 31, .int .i64 30, .int .i64 31, .int .i64 30, .int .i64 31, .int .i64 31, .int .i64 30, .int .i64 31, .int .i64 30, .int .i64 31]) (.int .i64 9)).run Try.prog W = .ok (.int .i64 31) W := fun W => run_index_arr (P := Try.prog) 40 3 12 mlens .i64 9 (.int .i64 31) W Try.underlying40 (by omega) rfl size_int agg_int
 go_enter Try.func15, Try.ntmps15
 go_wp2
 go_ret
 exact ⟨rfl, rfl⟩
theorem rdays_11 (y : Int) (w : World) (h0 : 1900 ≤ y) (h1 : y ≤ 2199) : Calls Try.prog 15 #[.int .i64 y, .int .i64 11] w fun e w' => e = .returned (.int .i64 30) ∧ w = w' := by
 have hx : ∀ W : World, (Instr.index 40 (.agg #[.int .i64 31, .int .i64 28, .int .i64 31, .int .i64 30, .int .i64 31, .int .i64 30, .int .i64 31, .int .i64 31, .int .i64 30, .int .i64 31, .int .i64 30, .int .i64 31]) (.int .i64 10)).run Try.prog W = .ok (.int .i64 30) W := fun W => run_index_arr (P := Try.prog) 40 3 12 mlens .i64 10 (.int .i64 30) W Try.underlying40 (by omega) rfl size_int agg_int
 go_enter Try.func15, Try.ntmps15
 go_wp2
 go_ret
 exact ⟨rfl, rfl⟩
theorem rdays_12 (y : Int) (w : World) (h0 : 1900 ≤ y) (h1 : y ≤ 2199) : Calls Try.prog 15 #[.int .i64 y, .int .i64 12] w fun e w' => e = .returned (.int .i64 31) ∧ w = w' := by
 have hx : ∀ W : World, (Instr.index 40 (.agg #[.int .i64 31, .int .i64 28, .int .i64 31, .int .i64 30, .int .i64 31, .int .i64 30, .int .i64 31, .int .i64 31, .int .i64 30, .int .i64 31, .int .i64 30, .int .i64 31]) (.int .i64 11)).run Try.prog W = .ok (.int .i64 31) W := fun W => run_index_arr (P := Try.prog) 40 3 12 mlens .i64 11 (.int .i64 31) W Try.underlying40 (by omega) rfl size_int agg_int
 go_enter Try.func15, Try.ntmps15
 go_wp2
 go_ret
 exact ⟨rfl, rfl⟩
theorem rdays_any (y m : Int) (w : World) : Calls Try.prog 15 #[.int .i64 y, .int .i64 m] w fun e w' => e = .returned (.int .i64 (dys y m)) ∧ w = w' := by
 cases h : inYM y m
 ·rw [dys_out h]; exact rdays_out y m w h
 ·rw [dys_in h]
  obtain ⟨a, b, c, d⟩ := inYM_iff.1 h
  clear h
  rcases twelve c d with rfl | rfl | rfl | rfl | rfl | rfl | rfl | rfl | rfl | rfl | rfl | rfl
  ·exact rdays_1 y w a b
  ·exact rdays_two y w a b
  ·exact rdays_3 y w a b
  ·exact rdays_4 y w a b
  ·exact rdays_5 y w a b
  ·exact rdays_6 y w a b
  ·exact rdays_7 y w a b
  ·exact rdays_8 y w a b
  ·exact rdays_9 y w a b
  ·exact rdays_10 y w a b
  ·exact rdays_11 y w a b
  ·exact rdays_12 y w a b
def nth (L : List Nat) (k : Nat) : Nat := L.getD k 0
theorem nth_lt {L : List Nat} {k : Nat} (h : k < L.length) : nth L k = L[k] := by simp [nth, h]
def Cells (k : IntKind) (w : World) (b o : Nat) (L : List Nat) : Prop := ∀ j, j < L.length → w.cell? ⟨b, o + j, none⟩ = some (.int k (nth L j))
def Blk (k : IntKind) (t : TypeId) (w : World) (g : Nat) (L : List Nat) : Prop := w.heap[g]? = some (.cells (L.map fun (d : Nat) => Value.int k (d : Int)).toArray t (0, 0))
section
variable {k : IntKind} {t : TypeId} {w w' : World} {b o g B : Nat} {L : List Nat}
theorem Blk.cell (h : Blk k t w g L) (i : Nat) (hi : i < L.length) : w.cell? ⟨g, i, none⟩ = some (.int k (nth L i)) := by
 unfold Blk at h
 simp [World.cell?, h, nth, hi]
theorem Blk.frozen (h : Blk k t w g L) (i : Nat) : w.frozen? ⟨g, i, none⟩ = false := by
 unfold Blk at h
 simp [World.frozen?, h]
theorem Blk.set_ (h : Blk k t w g L) (i x : Nat) : Blk k t (w.setCell ⟨g, i, none⟩ (.int k x)) g (L.set i x) := by
 unfold Blk at h ⊢
 simp [World.setCell, Array.getElem?_modify, h, List.map_set]
theorem Blk.setI (h : Blk k t w g L) (i : Nat) {v : Int} {x : Nat} (hv : v = (x : Int)) : Blk k t (w.setCell ⟨g, i, none⟩ (.int k v)) g (L.set i x) := by
 subst hv; exact h.set_ i x
end
structure Row (k : IntKind) (w : World) (B : Nat) (A : Option Addr) (c : Nat) (L : List Nat) : Prop where
 len : L.length ≤ c
 spot : 0 < L.length → ∃ b o, A = some ⟨b, o, none⟩ ∧ b < B ∧ Cells k w b o L
section
variable {k : IntKind} {t : TypeId} {w w' : World} {g B B' c : Nat} {A : Option Addr} {L : List Nat}
theorem Row.nil (k : IntKind) (w : World) (B : Nat) (A : Option Addr) (c : Nat) : Row k w B A c [] := ⟨Nat.zero_le _, fun h => absurd h (by simp)⟩
end
def Own (k : IntKind) (e : TypeId) (w : World) (base : Nat) (v : Value) (L : List Nat) : Prop := w.ownsRow base e 1 v L.length (L.map fun (d : Nat) => Value.int k (d : Int))
theorem Own.row {k : IntKind} {e : TypeId} {w : World} {base : Nat} {v : Value} {L : List Nat} (h : Own k e w base v L) :
  ∃ A c, v = .slice A L.length c ∧ Row k w w.heap.size A c L := by
 obtain ⟨h1, h2⟩ := h
 rcases h2 with ⟨rfl, h0⟩ | ⟨g, cap, cur, rfl, hbg, hg, hn, hcap, hsz, hcur⟩
 ·obtain rfl : L = [] := List.eq_nil_of_length_eq_zero h0
  exact ⟨none, 0, rfl, Row.nil _ _ _ _ _⟩
 ·refine ⟨_, cap, rfl, hn, fun _ => ⟨g, 0, rfl, ?_, fun j hj => ?_⟩⟩
  ·rcases Nat.lt_or_ge g w.heap.size with hlt | hge
   ·exact hlt
   ·rw [Array.getElem?_eq_none hge] at hg; cases hg
  ·have h3 : cur.toList[j]? = some (Value.int k (nth L j)) := by
    have : (cur.toList.take (L.length * 1))[j]? = some (Value.int k (nth L j)) := by
     rw [hcur, List.getElem?_map, List.getElem?_eq_getElem hj, nth_lt hj]; rfl
    rw [List.getElem?_take] at this
    split at this
    ·exact this
    ·cases this
   simp only [World.cell?, hg, Nat.zero_add]
   simpa using h3
theorem below_alloc_new {w : World} (o : Obj) : Below w.heap.size w (w.alloc o) := (Below.refl _ _).alloc (Nat.le_refl _) _
theorem wpList_make_zeros {P : Program} (w : World) {ops : Array Oper} {rest : List Oper} {o : Oper} {a : Act} {Q : Exit → Act → World → Prop}
  (hg : o.guard = none) (l c : Operand) (t : TypeId) (hop : o.op = Op.makeSlice t l c)
  (e : TypeId) (k : IntKind) (i : TypeInfo) (bytes : Nat) (ht : P.underlying t = some (.slice e)) (hi : P.info? e = some i) (hz : i.zero = some (.int k 0)) (hsize : i.size = 1) (hbt : i.bytes = bytes)
  (kl kc : IntKind) (N C : Int) (n : Nat) (hl : a.eval l = .int kl N) (hc : a.eval c = .int kc C) (hN : N = (n : Int)) (hC : C = (n : Int)) (hb8 : bytes ≤ 8) (hn : n ≤ 100000000)
  (hK : ∀ w', Hid (Blk k e w' w.heap.size (List.replicate n 0)) → Below w.heap.size w w' → w.heap.size + 1 = w'.heap.size → wpList P ops Q rest (a.put o.dst (.slice (some ⟨w.heap.size, 0, none⟩) n n)) w') :
  wpList P ops Q (o :: rest) a w := by
 subst hN
 subst hC
 refine wpList_make_row w hg l c t hop e i (.int k 0) ht hi hz hsize rfl kl kc n hl hc ?_ (by omega) ?_
 ·have : i.bytes * n ≤ 8 * n := Nat.mul_le_mul_right _ (by omega)
  omega
 refine hK _ ?_ (below_alloc_new _) (by simp)
 show _ = _
 rw [heap_alloc_new]
 have : madeCells #[Value.int k 0] n = ((List.replicate n 0).map fun (d : Nat) => Value.int k (d : Int)).toArray := by
  apply Array.ext
  ·simp [madeCells]
  ·intro j h1 h2
   simp [madeCells, Nat.mod_one]
 rw [this]
theorem quiet_one {P : Program} {f : FuncId} {args : Array Value} {w : World} {n : Nat} {v : Value}
  (h : ∀ W : World, Calls P f args W fun e w' => e = .returned v ∧ ∃ m, w' = W.drewN m) :
  Calls P f args (w.drewN n) fun e w'' => e = .returned v ∧ ∃ m, w'' = w.drewN m :=
 (h _).mono fun _ _ ⟨he, m, hm⟩ => ⟨he, n + m, by rw [hm, World.drewN_drewN]⟩
theorem same_quiet {P : Program} {f : FuncId} {args : Array Value} {v : Value} (h : ∀ W : World, Calls P f args W fun e w' => e = .returned v ∧ W = w') :
  ∀ W : World, Calls P f args W fun e w' => e = .returned v ∧ ∃ m, w' = W.drewN m := fun W => (h W).mono fun _ _ ⟨he, hw⟩ => ⟨he, 0, by rw [← hw]; rfl⟩
theorem below_drewN {B : Nat} {a w : World} (h : Below B a w) (n : Nat) : Below B a (w.drewN n) := ⟨h.os, h.tape, h.output, h.size, h.block⟩
open Go.RowKit

/- The tests of Of, as they show. -/
theorem rof_no (y m d : Int) (w : World) (h : dayB y m d = false) : Calls Try.prog 13 #[.int .i64 y, .int .i64 m, .int .i64 d] w fun e w' => e = .returned (.tuple #[.int .i64 0, .int .i64 2]) ∧ w = w' := by
 have hx := dayB_no h
 clear h
 rcases hx with h1 | ⟨h1, h2⟩
 ·go_enter Try.func13, Try.ntmps13
  go_wp2
  go_ret2
  exact ⟨rfl, rfl⟩
 ·go_enter Try.func13, Try.ntmps13
  go_wp2_with (go_at_call 15; refine (rdays_any _ _ _).mono ?_; rintro e w' ⟨rfl, rfl⟩)
  go_ret2
  exact ⟨rfl, rfl⟩
theorem rof_yes (y m d : Int) (w : World) (h : dayB y m d = true) : Calls Try.prog 13 #[.int .i64 y, .int .i64 m, .int .i64 d] w fun e w' => e = .returned (.tuple #[.int .i64 (dno y m d), .int .i64 0]) ∧ w = w' := by
 have hc := dayB_iff.1 h
 obtain ⟨h1, h2⟩ := dayB_yes h
 obtain ⟨y0, y1, m0, m1, d0, d1, -⟩ := hc
 clear h
 have hn := nyr_bd (y := y) (by omega) (by omega)
 have hd := mdy_bd y m
 go_enter Try.func13, Try.ntmps13
 go_wp2_with (go_at_call 15; refine (rdays_any _ _ _).mono ?_; rintro e w' ⟨rfl, rfl⟩)
 go_loop [8, 9] (fun v1 v2 => ∃ a : Int, 1900 ≤ a ∧ a ≤ y ∧ v2 = .int .i64 a ∧ v1 = .int .i64 (nyr a)) (fun v1 v2 => (y - intOf v2).toNat)
 case atStart => exact ⟨1900, by omega, by omega, rfl, rfl⟩
 case round =>
  obtain ⟨a, a0, a1, rfl, rfl⟩ := hrel
  have hb := nyr_bd (y := a) (by omega) (by omega)
  by_cases hlt : a < y
  ·have hs := nyr_succ a (by omega)
   have hi := fun w => rleap_any a w (by omega)
   unfold lpI at hs
   have HS := Lib.hid hs
   clear hs
   cases hl : lpB a
   all_goals
    rw [hl] at hi HS
    have HI := Lib.hid hi
    clear hi hl
    go_wp2_with (go_at_call 29; refine (HI.out _).mono ?_; rintro e w' ⟨rfl, rfl⟩)
    go_round
    case rel => exact ⟨a + 1, by omega, by omega, rfl, by first | (rw [HS.out]; done) | (rw [HS.out]; simp)⟩
    case measure => simp [intOf]; omega
  ·obtain rfl : a = y := by omega
   go_wp2
   go_loop [8, 10] (fun v1 v2 => ∃ b : Int, 1 ≤ b ∧ b ≤ m ∧ v2 = .int .i64 b ∧ v1 = .int .i64 (nyr a + mon a b)) (fun v1 v2 => (m - intOf v2).toNat)
   case atStart => exact ⟨1, by omega, by omega, rfl, by rw [mon_1]; go_num⟩
   case round =>
    obtain ⟨b, b0, b1, rfl, rfl⟩ := hrel
    have hm := mon_bd (y := a) (m := b) (by omega) (by omega)
    have hl := lpI_01 a
    by_cases hlt : b < m
    ·have hs := mon_succ a b (by omega) (by omega)
     have hb0 := mdy_bd a b
     have hi : inYM a b = true := inYM_iff.2 ⟨by omega, by omega, by omega, by omega⟩
     have hy := fun w => rdays_any a b w
     rw [dys_in hi] at hy
     have HY := Lib.hid hy
     have HS := Lib.hid hs
     clear hy hs hi
     go_wp2_with (go_at_call 15; refine (HY.out _).mono ?_; rintro e w' ⟨rfl, rfl⟩)
     go_round
     case rel => exact ⟨b + 1, by omega, by omega, rfl, by rw [HS.out]; go_num⟩
     case measure => simp [intOf]; omega
    ·obtain rfl : b = m := by omega
     go_wp2
     go_ret2
     exact ⟨by unfold dno; go_num, rfl⟩
theorem dtrof_any (y m d : Int) (w : World) : Calls Try.prog 13 #[.int .i64 y, .int .i64 m, .int .i64 d] w fun e w' => e = .returned (.tuple #[.int .i64 (ofN y m d), .int .i64 (ofE y m d)]) ∧ w = w' := by
 unfold ofN ofE
 cases h : dayB y m d
 ·exact rof_no y m d w h
 ·exact rof_yes y m d w h
theorem civ_no (n : Int) (w : World) (h : vdB n = false) : Calls Try.prog 16 #[.int .i64 n] w fun e w' => e = .returned (.tuple #[.int .i64 0, .int .i64 0, .int .i64 0, .int .i64 2]) ∧ w = w' := by
 have hv := fun w => vd_any n w
 rw [h] at hv
 have HV := Lib.hid hv
 clear hv h
 go_enter Try.func16, Try.ntmps16
 go_wp2_with (go_at_call 18; refine (HV.out _).mono ?_; rintro e w' ⟨rfl, rfl⟩)
 exact bodyPost_ret (v := .tuple #[.int .i64 0, .int .i64 0, .int .i64 0, .int .i64 2]) (by simp [results, Try.results16, go_sem]) rfl ⟨rfl, rfl⟩
theorem civ_loop {n y m d : Int} (h : IsCiv n y m d) {b : Int} (b0 : 1 ≤ b) (b1 : b ≤ m) : (b < m → mdy y b < n - nyr y - mon y b + 1) ∧ (b = m → ¬ mdy y b < n - nyr y - mon y b + 1) := by
 obtain ⟨y0, y1, m0, m1, d0, d1, rfl⟩ := h
 unfold dno
 constructor
 ·intro hlt
  have h1 := mon_succ y b b0 (by omega)
  have h2 := mon_mono (y := y) (m := b + 1) (n := m) (by omega) (by omega) (by omega)
  omega
 ·rintro rfl
  omega
theorem civ_yes (n y m d : Int) (w : World) (h : IsCiv n y m d) : Calls Try.prog 16 #[.int .i64 n] w fun e w' => e = .returned (.tuple #[.int .i64 y, .int .i64 m, .int .i64 d, .int .i64 0]) ∧ Below w.heap.size w w' := by
 have hv := fun w => vd_any n w
 have hv1 := vdB_iff.2 h.bd
 rw [hv1] at hv
 have HV := Lib.hid hv
 obtain ⟨n0, n1⟩ := h.bd
 obtain ⟨c0, c1, c2, c3⟩ := civY_bd n0 n1
 have hY := (civ_eq h).1
 have HC := Lib.hid h
 have hd : n - nyr y - mon y m + 1 = d := by have := h.eq; unfold dno at this; omega
 obtain ⟨y0, y1, m0, m1, d0, d1, -⟩ := h
 have hB := Below.refl w.heap.size w
 have e0 : civY0 n = 1900 + (n + 25567) / 365 := rfl
 have k0 : 1900 ≤ civY0 n := by omega
 have k1 : civY0 n ≤ 2200 := by omega
 have e1 : civY n = if n < nyr (civY0 n) then civY0 n - 1 else civY0 n := rfl
 clear hv hv1
 by_cases hg : n < nyr (civY0 n)
 ·rw [if_pos hg] at e1
  have e2 : civY0 n - 1 = y := by omega
  rw [e0] at hg e2 k0 k1
  have k2 : -25567 ≤ nyr (1900 + (n + 25567) / 365) ∧ nyr (1900 + (n + 25567) / 365) ≤ 84006 := nyr_bd k0 (by omega)
  have k3 : 1900 ≤ 1900 + (n + 25567) / 365 - 1 := by omega
  have k4 : -25567 ≤ nyr (1900 + (n + 25567) / 365 - 1) ∧ nyr (1900 + (n + 25567) / 365 - 1) ≤ 84006 := nyr_bd k3 (by omega)
  have E2 := Lib.hid e2
  have HD := Lib.hid hd
  clear e0 e1 e2 hY hd
  go_enter Try.func16, Try.ntmps16
  go_wp2_with (first | (go_at_call 18; refine (HV.out _).mono ?_; rintro e w' ⟨rfl, rfl⟩) | (go_at_call 28; refine (newYear_any _ _ (by omega) (by omega)).mono ?_; rintro e w' ⟨rfl, rfl⟩))
  rw [E2.out]
  go_loopw [3, 4] (fun v1 v2 w1 => ∃ b : Int, 1 ≤ b ∧ b ≤ m ∧ v1 = .int .i64 b ∧ v2 = .int .i64 (n - nyr y - mon y b + 1) ∧ Below w.heap.size w w1) (fun v1 v2 w1 => (m - intOf v1).toNat)
  case atStart => exact ⟨1, by omega, by omega, rfl, by rw [mon_1]; go_num, hB⟩
  case round =>
   obtain ⟨b, b0, b1, rfl, rfl, hB1⟩ := hrel
   have hm := mon_bd (y := y) (m := b) (by omega) (by omega)
   have hlp := lpI_01 y
   have hnb := nyr_bd (y := y) (by omega) (by omega)
   have hL := civ_loop HC.out b0 b1
   have hb0 := mdy_bd y b
   have hi : inYM y b = true := inYM_iff.2 ⟨by omega, by omega, by omega, by omega⟩
   have hy := fun w => days_any y b w
   rw [dys_in hi] at hy
   have HY := Lib.hid hy
   clear hy hi
   by_cases hlt : b < m
   ·have hs := mon_succ y b (by omega) (by omega)
    have hL2 := hL.1 hlt
    have HS := Lib.hid hs
    clear hs hL
    go_wp2_with (go_at_call 14; refine (HY.out _).mono ?_; rintro e w' ⟨rfl, hb⟩; replace hB1 := below_more hB1 hb; clear hb)
    go_roundw
    case rel => exact ⟨b + 1, by omega, by omega, rfl, by rw [HS.out]; go_num, hB1⟩
    case measure => simp [intOf]; omega
   ·obtain rfl : b = m := by omega
    have hL2 := hL.2 rfl
    clear hL hlt
    go_wp2_with (go_at_call 14; refine (HY.out _).mono ?_; rintro e w' ⟨rfl, hb⟩; replace hB1 := below_more hB1 hb; clear hb)
    exact bodyPost_ret (v := .tuple #[.int .i64 y, .int .i64 b, .int .i64 (n - nyr y - mon y b + 1), .int .i64 0]) (by simp [results, Try.results16, go_sem]) rfl ⟨by rw [HD.out], hB1⟩
 ·rw [if_neg hg] at e1
  have e2 : civY0 n = y := by omega
  rw [e0] at hg e2 k0 k1
  have k2 : -25567 ≤ nyr (1900 + (n + 25567) / 365) ∧ nyr (1900 + (n + 25567) / 365) ≤ 84006 := nyr_bd k0 (by omega)
  have E2 := Lib.hid e2
  have HD := Lib.hid hd
  clear e0 e1 e2 hY hd
  go_enter Try.func16, Try.ntmps16
  go_wp2_with (first | (go_at_call 18; refine (HV.out _).mono ?_; rintro e w' ⟨rfl, rfl⟩) | (go_at_call 28; refine (newYear_any _ _ (by omega) (by omega)).mono ?_; rintro e w' ⟨rfl, rfl⟩))
  rw [E2.out]
  go_loopw [3, 4] (fun v1 v2 w1 => ∃ b : Int, 1 ≤ b ∧ b ≤ m ∧ v1 = .int .i64 b ∧ v2 = .int .i64 (n - nyr y - mon y b + 1) ∧ Below w.heap.size w w1) (fun v1 v2 w1 => (m - intOf v1).toNat)
  case atStart => exact ⟨1, by omega, by omega, rfl, by rw [mon_1]; go_num, hB⟩
  case round =>
   obtain ⟨b, b0, b1, rfl, rfl, hB1⟩ := hrel
   have hm := mon_bd (y := y) (m := b) (by omega) (by omega)
   have hlp := lpI_01 y
   have hnb := nyr_bd (y := y) (by omega) (by omega)
   have hL := civ_loop HC.out b0 b1
   have hb0 := mdy_bd y b
   have hi : inYM y b = true := inYM_iff.2 ⟨by omega, by omega, by omega, by omega⟩
   have hy := fun w => days_any y b w
   rw [dys_in hi] at hy
   have HY := Lib.hid hy
   clear hy hi
   by_cases hlt : b < m
   ·have hs := mon_succ y b (by omega) (by omega)
    have hL2 := hL.1 hlt
    have HS := Lib.hid hs
    clear hs hL
    go_wp2_with (go_at_call 14; refine (HY.out _).mono ?_; rintro e w' ⟨rfl, hb⟩; replace hB1 := below_more hB1 hb; clear hb)
    go_roundw
    case rel => exact ⟨b + 1, by omega, by omega, rfl, by rw [HS.out]; go_num, hB1⟩
    case measure => simp [intOf]; omega
   ·obtain rfl : b = m := by omega
    have hL2 := hL.2 rfl
    clear hL hlt
    go_wp2_with (go_at_call 14; refine (HY.out _).mono ?_; rintro e w' ⟨rfl, hb⟩; replace hB1 := below_more hB1 hb; clear hb)
    exact bodyPost_ret (v := .tuple #[.int .i64 y, .int .i64 b, .int .i64 (n - nyr y - mon y b + 1), .int .i64 0]) (by simp [results, Try.results16, go_sem]) rfl ⟨by rw [HD.out], hB1⟩
theorem civ_any (n : Int) (w : World) (h : vdB n = true) : Calls Try.prog 16 #[.int .i64 n] w fun e w' => e = .returned (.tuple #[.int .i64 (civY n), .int .i64 (civM n), .int .i64 (civD n), .int .i64 0]) ∧ Below w.heap.size w w' := civ_yes n _ _ _ w (civ_is h)
open Go.Lib (decDigits)
def padk : Nat → Nat → List UInt8
 | 0, _ => []
 | k + 1, r => padk k (r / 10) ++ [UInt8.ofNat (48 + r % 10)]
theorem padk_length (k r : Nat) : (padk k r).length = k := by
 induction k generalizing r with
 | zero => rfl
 | succ k ih => simp [padk, ih]
def codes (l : List UInt8) : List Nat := l.map (·.toNat)
theorem codes_append (a b : List UInt8) : codes (a ++ b) = codes a ++ codes b := by simp [codes]
theorem codes_length (a : List UInt8) : (codes a).length = a.length := by simp [codes]
theorem fold_push (l : List UInt8) (acc : ByteArray) : (codes l).foldl (fun (r : ByteArray) (n : Nat) => r.push (UInt8.ofNat (n : Int).toNat)) acc = ⟨acc.data ++ l.toArray⟩ := by
 induction l generalizing acc with
 | nil => simp [codes]
 | cons c r ih =>
  show (codes r).foldl _ (acc.push (UInt8.ofNat (c.toNat : Int).toNat)) = _
  rw [ih]
  have : UInt8.ofNat (c.toNat : Int).toNat = c := by simp
  rw [this]
  simp [ByteArray.push]
theorem run_bytes_str {P : Program} {w : World} {e : TypeId} {base : Nat} {v : Value} {T : List UInt8} (src dst : TypeId) (hs : P.underlying src = some (.slice e)) (he : P.underlying e = some (.int .u8)) (hd : P.underlying dst = some .string)
  (hown : Own .u8 e w base v (codes T)) (hT : T ≠ []) : (convert src dst v).run P w = .ok (.string ⟨T.toArray⟩) w := by
 obtain ⟨A, c, rfl, hrow⟩ := hown.row
 obtain ⟨b, o, rfl, _, hc⟩ := hrow.spot (by rw [codes_length]; exact List.length_pos_iff.2 hT)
 rw [run_convert_bytes_string w src dst e _ _ _ hs he hd]
 have hl : (loadCells ⟨b, o, none⟩ (codes T).length).run P w = .ok (((codes T).map fun (n : Nat) => (n : Int)).map (Value.int .u8)).toArray w := by
  have := run_loadCells_list (P := P) (w := w) ⟨b, o, none⟩ (((codes T).map fun (n : Nat) => (n : Int)).map (Value.int .u8)) (fun j v hj => by
   have hjl : j < (codes T).length := by
    rcases Nat.lt_or_ge j (codes T).length with h | h
    ·exact h
    ·rw [List.getElem?_eq_none (by simpa using h)] at hj; cases hj
   have h2 := hc j hjl
   have h3 : v = .int .u8 (nth (codes T) j) := by
    rw [List.getElem?_map, List.getElem?_map, List.getElem?_eq_getElem hjl] at hj
    simp at hj
    rw [← hj, nth_lt hjl]
   rw [h3, ← h2]
   unfold Addr.add
   split
   ·rename_i h0; subst h0; simp
   ·rfl)
  simpa using this
 rw [run_bytesToString w _ _ _ _ hl, List.foldl_map, fold_push]
 simp [ByteArray.empty, ByteArray.emptyWithCapacity]
 rfl
theorem wpList_bytes_str {P : Program} {w : World} {ops : Array Oper} {rest : List Oper} {o : Oper} {a : Act} {Q : Exit → Act → World → Prop} (hg : o.guard = none) (src dst : TypeId) (x : Operand) (hop : o.op = Op.convert src dst x)
  (e : TypeId) (hs : P.underlying src = some (.slice e)) (he : P.underlying e = some (.int .u8)) (hd : P.underlying dst = some .string)
  (base : Nat) (v : Value) (T : List UInt8) (hx : a.eval x = v) (hown : Own .u8 e w base v (codes T)) (hT : T ≠ [])
  (h : wpList P ops Q rest (a.put o.dst (.string ⟨T.toArray⟩)) w) : wpList P ops Q (o :: rest) a w := by
 refine wpList_plain hg fun K hK => ?_
 have hrun := run_bytes_str src dst hs he hd hown hT
 unfold Oper.wp
 simp [execOp, hop, hx, hrun, Result.andThen]
 exact hK _ _ h
def rnum (t : ByteArray) : Int := if allD t then numT t else -1
theorem rnumber_any (t : ByteArray) (w : World) (hs : t.size ≤ 4) : Calls Try.prog 35 #[.string t] w fun e w' => e = .returned (.int .i64 (rnum t)) ∧ w = w' := by
 go_enter Try.func35, Try.ntmps35
 go_wp2_with fail
 go_loop [3, 4] (fun v1 v2 => ∃ i : Nat, i ≤ t.size ∧ v2 = .int .i64 i ∧ v1 = .int .i64 (numOf (t.data.toList.take i) : Nat) ∧ numOf (t.data.toList.take i) ≤ 9999 ∧ Hid (∀ j, j < i → (h2 : j < t.size) → isDig (t[j]'h2) = true)) (fun v1 v2 => t.size - (intOf v2).toNat)
 case atStart => exact ⟨0, by omega, rfl, rfl, by simp [numOf], fun j h => absurd h (by omega)⟩
 case round =>
  obtain ⟨i, hi, rfl, rfl, hb0, hd⟩ := hrel
  by_cases hlt : i < t.size
  ·have hlt' : (i : Int) < (t.size : Int) := by omega
   have hs1 := Lib.hid (numT_take t i hlt)
   have hbd : Hid (∀ c : UInt8, t[i]'hlt = c → isDig c = true → numOf (t.data.toList.take (i + 1)) ≤ 9999) := by
    rintro c rfl hc
    have h3 := numT_bd (l := t.data.toList.take (i + 1)) (fun x hx => by
     obtain ⟨j, hj, rfl⟩ := List.getElem_of_mem hx
     rw [List.getElem_take]
     have hj2 : j < i + 1 := by simp at hj; omega
     have hj3 : j < t.size := by omega
     rw [tl_get t j hj3]
     rcases Nat.lt_succ_iff_lt_or_eq.1 hj2 with h | rfl
     ·exact hd.out j h hj3
     ·exact hc) 4 (by simp; omega)
    omega
   generalize numOf (t.data.toList.take i) = N at *
   obtain ⟨b, hb⟩ : ∃ b, t[i]'hlt = b := ⟨_, rfl⟩
   have hcb : ∀ h, t[i]'h = b := fun h => hb
   have HB := Lib.hid hb
   clear hb
   by_cases hb1 : b.toNat < 48
   ·have hq : (b.toNat : Int) < 48 := by omega
    have he : Hid (rnum t = -1) := by
     have he2 := allD_no hlt (by rw [HB.out]; simp [isDig]; omega)
     unfold rnum
     rw [he2]
     exact Lib.hid rfl
    clear hb1
    go_wp2_with fail
    go_ret
    exact ⟨by rw [he.out]; rfl, rfl⟩
   ·have hq : decide ((b.toNat : Int) < 48) = false := decide_eq_false (by omega)
    by_cases hb2 : 57 < b.toNat
    ·have hq2 : 57 < (b.toNat : Int) := by omega
     have he : Hid (rnum t = -1) := by
      have he2 := allD_no hlt (by rw [HB.out]; simp [isDig]; omega)
      unfold rnum
      rw [he2]
      exact Lib.hid rfl
     clear hb1 hb2
     go_wp2_with fail
     go_ret
     exact ⟨by rw [he.out]; rfl, rfl⟩
    ·have hq2 : decide (57 < (b.toNat : Int)) = false := decide_eq_false (by omega)
     have hdb : Hid (isDig b = true) := Lib.hid (isDig_iff.2 ⟨by omega, by omega⟩)
     have hd3 : 48 ≤ (b.toNat : Int) := by omega
     have hd4 : (b.toNat : Int) ≤ 57 := by omega
     have hbd2 := hbd.out b HB.out hdb.out
     rw [hs1.out, HB.out] at hbd2
     have hs2 := hs1.out
     rw [HB.out] at hs2
     have HS2 := Lib.hid hs2
     clear hb1 hb2 hs2 hbd hs1
     go_wp2_with fail
     go_round
     case rel => exact ⟨i + 1, by omega, by go_num, by rw [HS2.out]; go_num, by rw [HS2.out]; omega, fun j hj h2 => by
      rcases Nat.lt_succ_iff_lt_or_eq.1 hj with h | rfl
      ·exact hd.out j h h2
      ·rw [HB.out]; exact hdb.out⟩
     case measure => simp [intOf]; omega
  ·have hge : decide ((i : Int) < (t.size : Int)) = false := by simp; omega
   have he : Hid (rnum t = (numOf (t.data.toList.take i) : Nat)) := by
    have he2 : allD t = true := allD_yes fun j h2 => hd.out j (by omega) h2
    unfold rnum numT
    rw [he2, List.take_of_length_le (by simp; omega)]
    exact Lib.hid rfl
   go_wp2_with fail
   go_ret
   exact ⟨by rw [he.out]; rfl, rfl⟩
theorem rnum_yes {t : ByteArray} (h : allD t = true) : rnum t = (numT t : Int) := by unfold rnum; rw [h]; rfl
theorem rnum_no {t : ByteArray} (h : allD t = false) : rnum t = -1 := by unfold rnum; rw [h]; rfl
def hyB (s : ByteArray) : Bool := decide (s.size = 10) && ((((bt s 4).toNat : Int) == 45) && (((bt s 7).toNat : Int) == 45))
theorem hyB_no {s : ByteArray} (h : hyB s = false) : fmB s = false := by
 unfold hyB at h
 unfold fmB
 cases h1 : decide (s.size = 10)
 ·rfl
 ·cases h2 : (((bt s 4).toNat : Int) == 45)
  ·simp
  ·cases h3 : (((bt s 7).toNat : Int) == 45)
   ·simp
   ·rw [h1, h2, h3] at h; cases h
theorem hyB_yes {s : ByteArray} (h : hyB s = true) : s.size = 10 ∧ (((bt s 4).toNat : Int) == 45) = true ∧ (((bt s 7).toNat : Int) == 45) = true ∧ fmB s = (allD (s.extract 0 4) && (allD (s.extract 5 7) && allD (s.extract 8 s.size))) := by
 unfold hyB at h
 rw [Bool.and_eq_true, Bool.and_eq_true, decide_eq_true_eq] at h
 obtain ⟨h1, h2, h3⟩ := h
 refine ⟨h1, h2, h3, ?_⟩
 unfold fmB
 rw [decide_eq_true h1, h2, h3]
 simp
theorem rparse_no1 (s : ByteArray) (w : World) (_hs : s.size ≤ 1000) (h : hyB s = false) : Calls Try.prog 23 #[.string s] w fun e w' => e = .returned (.tuple #[.int .i64 0, .int .i64 3]) ∧ ∃ n, w' = w.drewN n := by
 by_cases h10 : s.size = 10
 ·have hq : ((s.size : Int) != 10) = false := by simp; omega
  have hb4 : ∀ h, s[4]'h = bt s 4 := bt_is s 4
  have hb7 : ∀ h, s[7]'h = bt s 7 := bt_is s 7
  unfold hyB at h
  rw [decide_eq_true h10] at h
  generalize bt s 4 = b4 at *
  generalize bt s 7 = b7 at *
  have g4 : (4 : Int) < s.size := by omega
  have g5 : (7 : Int) < s.size := by omega
  cases h4 : ((b4.toNat : Int) == 45)
  ·have h4' : ((b4.toNat : Int) != 45) = true := by rw [bne, h4]; rfl
   clear h4 h h10
   go_enter Try.func23, Try.ntmps23
   go_wp2_with fail
   go_ret2
   exact ⟨rfl, 0, rfl⟩
  ·have h4' : ((b4.toNat : Int) != 45) = false := by rw [bne, h4]; rfl
   have h7' : ((b7.toNat : Int) != 45) = true := by
    cases h7 : ((b7.toNat : Int) == 45)
    ·rw [bne, h7]; rfl
    ·rw [h4, h7] at h; cases h
   clear h4 h h10
   go_enter Try.func23, Try.ntmps23
   go_wp2_with fail
   go_ret2
   exact ⟨rfl, 0, rfl⟩
 ·have hq : ((s.size : Int) != 10) = true := by simp; omega
  clear h10 h
  go_enter Try.func23, Try.ntmps23
  go_wp2_with fail
  go_ret2
  exact ⟨rfl, 0, rfl⟩
theorem rparse_yes1 (s : ByteArray) (w : World) (h : hyB s = true) : Calls Try.prog 23 #[.string s] w fun e w' => e = .returned (.tuple #[.int .i64 (paN s), .int .i64 (paE s)]) ∧ ∃ n, w' = w.drewN n := by
 obtain ⟨h10, h4, h7, hf⟩ := hyB_yes h
 unfold paN paE paY paM paD
 rw [hf]
 have h1 := fun w => rnumber_any (s.extract 0 4) w (by rw [ex4 h10]; omega)
 have h2 := fun w => rnumber_any (s.extract 5 7) w (by rw [ex57 h10]; omega)
 have h3 := fun w => rnumber_any (s.extract 8 s.size) w (by simp; omega)
 have hb4 : ∀ h, s[4]'h = bt s 4 := bt_is s 4
 have hb7 : ∀ h, s[7]'h = bt s 7 := bt_is s 7
 have hq : ((s.size : Int) != 10) = false := by simp; omega
 have h4' : (((bt s 4).toNat : Int) != 45) = false := by rw [bne, h4]; rfl
 have h7' : (((bt s 7).toNat : Int) != 45) = false := by rw [bne, h7]; rfl
 generalize bt s 4 = b4 at *
 generalize bt s 7 = b7 at *
 have g1 : (4 : Int) ≤ s.size := by omega
 have g2 : (7 : Int) ≤ s.size := by omega
 have g3 : (8 : Int) ≤ s.size := by omega
 have g4 : (4 : Int) < s.size := by omega
 have g5 : (7 : Int) < s.size := by omega
 clear h h10 h4 h7 hf
 cases k1 : allD (s.extract 0 4)
 case' true => cases k2 : allD (s.extract 5 7)
 case' true.true => cases k3 : allD (s.extract 8 s.size)
 case false =>
  rw [rnum_no k1] at h1
  obtain ⟨R2, hR2⟩ : ∃ r, rnum (s.extract 5 7) = r := ⟨_, rfl⟩
  obtain ⟨R3, hR3⟩ : ∃ r, rnum (s.extract 8 s.size) = r := ⟨_, rfl⟩
  rw [hR2] at h2
  rw [hR3] at h3
  have H1 := Lib.hid h1
  have H2 := Lib.hid h2
  have H3 := Lib.hid h3
  clear h1 h2 h3 k1 hR2 hR3
  go_enter Try.func23, Try.ntmps23
  go_wp2_with fail
  go_quiet ((go_at_call 35; first | (with_reducible exact quiet_one (same_quiet H1.out)) | (with_reducible exact quiet_one (same_quiet H2.out)) | (with_reducible exact quiet_one (same_quiet H3.out))))
  go_wp2_with fail
  go_ret2
  exact ⟨rfl, nq, rfl⟩
 case true.false =>
  rw [rnum_yes k1] at h1
  rw [rnum_no k2] at h2
  obtain ⟨R3, hR3⟩ : ∃ r, rnum (s.extract 8 s.size) = r := ⟨_, rfl⟩
  rw [hR3] at h3
  have n1 : (0 : Int) ≤ (numT (s.extract 0 4) : Int) := by omega
  generalize numT (s.extract 0 4) = N1 at *
  have H1 := Lib.hid h1
  have H2 := Lib.hid h2
  have H3 := Lib.hid h3
  clear h1 h2 h3 k1 k2 hR3
  go_enter Try.func23, Try.ntmps23
  go_wp2_with fail
  go_quiet ((go_at_call 35; first | (with_reducible exact quiet_one (same_quiet H1.out)) | (with_reducible exact quiet_one (same_quiet H2.out)) | (with_reducible exact quiet_one (same_quiet H3.out))))
  go_wp2_with fail
  go_ret2
  exact ⟨rfl, nq, rfl⟩
 case true.true.false =>
  rw [rnum_yes k1] at h1
  rw [rnum_yes k2] at h2
  rw [rnum_no k3] at h3
  have n1 : (0 : Int) ≤ (numT (s.extract 0 4) : Int) := by omega
  have n2 : (0 : Int) ≤ (numT (s.extract 5 7) : Int) := by omega
  generalize numT (s.extract 0 4) = N1 at *
  generalize numT (s.extract 5 7) = N2 at *
  have H1 := Lib.hid h1
  have H2 := Lib.hid h2
  have H3 := Lib.hid h3
  clear h1 h2 h3 k1 k2 k3
  go_enter Try.func23, Try.ntmps23
  go_wp2_with fail
  go_quiet ((go_at_call 35; first | (with_reducible exact quiet_one (same_quiet H1.out)) | (with_reducible exact quiet_one (same_quiet H2.out)) | (with_reducible exact quiet_one (same_quiet H3.out))))
  go_wp2_with fail
  go_ret2
  exact ⟨rfl, nq, rfl⟩
 case true.true.true =>
  rw [rnum_yes k1] at h1
  rw [rnum_yes k2] at h2
  rw [rnum_yes k3] at h3
  have n1 : (0 : Int) ≤ (numT (s.extract 0 4) : Int) := by omega
  have n2 : (0 : Int) ≤ (numT (s.extract 5 7) : Int) := by omega
  have n3 : (0 : Int) ≤ (numT (s.extract 8 s.size) : Int) := by omega
  simp only [Bool.and_true, if_true]
  generalize numT (s.extract 0 4) = N1 at *
  generalize numT (s.extract 5 7) = N2 at *
  generalize numT (s.extract 8 s.size) = N3 at *
  have H1 := Lib.hid h1
  have H2 := Lib.hid h2
  have H3 := Lib.hid h3
  clear h1 h2 h3 k1 k2 k3
  go_enter Try.func23, Try.ntmps23
  go_wp2_with fail
  go_quiet ((go_at_call 35; first | (with_reducible exact quiet_one (same_quiet H1.out)) | (with_reducible exact quiet_one (same_quiet H2.out)) | (with_reducible exact quiet_one (same_quiet H3.out))))
  go_wp2_with (go_at_call 13; refine (dtrof_any _ _ _ _).mono ?_; rintro e w' ⟨rfl, rfl⟩)
  go_ret2
  exact ⟨rfl, nq, rfl⟩
theorem dtrparse_any (s : ByteArray) (w : World) (hs : s.size ≤ 1000) : Calls Try.prog 23 #[.string s] w fun e w' => e = .returned (.tuple #[.int .i64 (paN s), .int .i64 (paE s)]) ∧ Below w.heap.size w w' := by
 cases h : hyB s
 ·refine (rparse_no1 s w hs h).mono ?_
  rintro e w' ⟨rfl, n, rfl⟩
  unfold paN paE
  rw [hyB_no h]
  exact ⟨rfl, below_drewN (Below.refl _ _) n⟩
 ·refine (rparse_yes1 s w h).mono ?_
  rintro e w' ⟨rfl, n, rfl⟩
  exact ⟨rfl, below_drewN (Below.refl _ _) n⟩
theorem of_ok {y m d : Int} (h : ofE y m d = 0) : IsCiv (ofN y m d) y m d := by
 unfold ofE at h
 unfold ofN
 cases hd : dayB y m d
 ·rw [hd] at h; exact absurd h (by decide)
 ·exact dayB_iff.1 hd
theorem info_u8 : (Try.prog.info? 5).map (fun i => (i.zero, i.size, i.bytes)) = some (some (.int .u8 0), 1, 1) := by kernel_rfl
theorem infop {P : Program} {t : TypeId} {z : Option Value} {s b : Nat} (h : (P.info? t).map (fun i => (i.zero, i.size, i.bytes)) = some (z, s, b)) : ∃ i, P.info? t = some i ∧ i.zero = z ∧ i.size = s ∧ i.bytes = b := by
 cases hi : P.info? t with
 | none => rw [hi] at h; cases h
 | some i => rw [hi] at h; simp at h; exact ⟨i, rfl, h.1, h.2.1, h.2.2⟩
theorem blk_own {k : IntKind} {t : TypeId} {w : World} {g : Nat} {L : List Nat} (h : Blk k t w g L) (hl : L.length ≤ 1000000) : Own k t w g (.slice (some ⟨g, 0, none⟩) L.length L.length) L := by
 refine ⟨by simp, .inr ⟨g, L.length, _, rfl, Nat.le_refl _, h, Nat.le_refl _, by unfold maxLen; omega, by simp, ?_⟩⟩
 exact List.take_of_length_le (by simp)
theorem codes_pad (k r : Nat) : codes (padk (k + 1) r) = codes (padk k (r / 10)) ++ [48 + r % 10] := by
 rw [padk, codes_append]
 congr 1
 unfold codes
 simp
 omega
theorem rep_set (i : Nat) (T : List Nat) (x : Nat) : (List.replicate (i + 1) 0 ++ T).set i x = List.replicate i 0 ++ x :: T := by
 rw [List.replicate_succ', List.append_assoc, List.set_append]
 simp
theorem digs_fin {n k : Nat} {T : List Nat} (hp : codes (padk k n) = codes (padk 0 0) ++ T) : T = codes (padk k n) := by rw [hp]; rfl
theorem ddigs_any (n k : Nat) (hk1 : 1 ≤ k) (hk : k ≤ 100) (hn : n ≤ 10000000) (w : World) : Calls Try.prog 31 #[.int .i64 (n : Int), .int .i64 (k : Int)] w fun e w' => e = .returned (.string ⟨(padk k n).toArray⟩) ∧ Below w.heap.size w w' := by
 obtain ⟨i0, hi, hz0, hz1, hz2⟩ := infop info_u8
 go_enter Try.func31, Try.ntmps31
 go_wp2_with (at_make; refine wpList_make_zeros _ rfl (.tmp 7) (.tmp 7) 43 rfl 5 .u8 i0 1 Try.underlying43 hi hz0 hz1 hz2 .i64 .i64 _ _ k rfl rfl rfl rfl (by omega) (by omega) ?_; intro w1 hb1 hB1 hs1)
 have HS1 := Lib.hid hs1
 clear hs1 hi hz0 hz1 hz2
 go_loopw [0, 6] (fun v0 v6 wr => ∃ (j p : Nat) (T : List Nat), j ≤ k ∧ v6 = .int .i64 ((j : Int) - 1) ∧ v0 = .int .i64 (p : Int) ∧ p ≤ n ∧ T.length + j = k ∧ Hid (codes (padk k n) = codes (padk j p) ++ T) ∧ Hid (Blk .u8 5 wr w.heap.size (List.replicate j 0 ++ T)) ∧ Below w.heap.size w wr) (fun _ v6 _ => (intOf v6 + 1).toNat)
 case atStart => exact ⟨k, n, [], Nat.le_refl _, rfl, rfl, Nat.le_refl _, by simp, Lib.hid (by simp), by simpa using hb1, hB1⟩
 case round =>
  obtain ⟨j, p, T, hj, h6, rfl, hpn, hT, hp, hb, hB⟩ := hrel
  cases j with
  | succ i =>
   obtain rfl : _ = Value.int .i64 (i : Int) := h6.trans (by congr 1; omega)
   clear h6
   have hfr := hb.out.frozen i
   obtain ⟨x, hc⟩ : ∃ x : Nat, wr.cell? ⟨w.heap.size, i, none⟩ = some (.int .u8 x) := ⟨_, hb.out.cell i (by simp; omega)⟩
   have hpb : (p : Int) ≤ 10000000 := by omega
   have hil : (i : Int) < (k : Int) := by omega
   have e1 := Lib.hid (hb.out.setI i (v := 48 + (p : Int) % 10) (x := 48 + p % 10) (by omega))
   have hB2 : Below w.heap.size w (wr.setCell ⟨w.heap.size, i, none⟩ (.int .u8 (48 + (p : Int) % 10))) := Below.setCell hB (Nat.le_refl _) _
   have hp2 : Hid (codes (padk k n) = codes (padk i (p / 10)) ++ ((48 + p % 10) :: T)) := Lib.hid (by rw [hp.out, codes_pad, List.append_assoc, List.singleton_append])
   go_wp2_with fail
   go_roundw
   case rel => exact ⟨i, p / 10, (48 + p % 10) :: T, by omega, rfl, by go_num, by omega, by simp; omega, hp2, Lib.hid (by rw [← rep_set]; exact e1.out), hB2⟩
   case measure => simp [intOf]
  | zero =>
   obtain rfl : _ = Value.int .i64 (-1) := h6.trans rfl
   clear h6
   have hT2 := digs_fin hp.out
   rw [hT2] at hb
   have hO := blk_own (k := .u8) (t := 5) (w := wr) (g := w.heap.size) (L := codes (padk k n)) (by simpa using hb.out) (by rw [codes_length, padk_length]; omega)
   rw [codes_length, padk_length] at hO
   have HO := Lib.hid hO
   have hne : padk k n ≠ [] := fun e => by have := padk_length k n; rw [e] at this; simp at this; omega
   have HN := Lib.hid hne
   clear hO hne hT2 hp hb hT
   go_wp2_with (refine wpList_bytes_str rfl 43 9 (.tmp 24) rfl 5 Try.underlying43 Try.underlying5 Try.underlying9 w.heap.size (.slice (some ⟨w.heap.size, 0, none⟩) k k) _ (by rfl) HO.out HN.out ?_)
   go_ret
   exact ⟨rfl, hB⟩
theorem bytes_eq6 {a b : ByteArray} (h : a.data.toList = b.data.toList) : a = b := by
 cases a; cases b; congr; exact Array.toList_inj.1 h
def dgT (k : Nat) (n : Int) : ByteArray := ⟨(padk k n.toNat).toArray⟩
theorem dgT_size (k : Nat) (n : Int) : (dgT k n).size = k := by
 show (padk k n.toNat).toArray.size = k
 rw [List.size_toArray, padk_length]
def civT (y m d : Int) : ByteArray := dgT 4 y ++ ⟨#[45]⟩ ++ dgT 2 m ++ ⟨#[45]⟩ ++ dgT 2 d
def txT (n : Int) : ByteArray := if vdB n then civT (civY n) (civM n) (civD n) else ⟨#[]⟩
theorem pdigs_any (n : Int) (k : Nat) (hk1 : 1 ≤ k) (hk : k ≤ 100) (h0 : 0 ≤ n) (hn : n ≤ 10000000) (w : World) : Calls Try.prog 31 #[.int .i64 n, .int .i64 (k : Int)] w fun e w' => e = .returned (.string (dgT k n)) ∧ Below w.heap.size w w' := by
 have h := ddigs_any n.toNat k hk1 hk (by omega) w
 rw [Int.toNat_of_nonneg h0] at h
 exact h
theorem dttext_any (n : Int) (w : World) : Calls Try.prog 19 #[.int .i64 n] w fun e w' => e = .returned (.string (txT n)) ∧ Below w.heap.size w w' := by
 unfold txT
 have hB := Below.refl w.heap.size w
 cases h : vdB n
 ·have h1 := fun w => civ_no n w h
  have H1 := Lib.hid h1
  clear h1 h
  go_enter Try.func19, Try.ntmps19
  go_wp2_with (go_at_call 16; refine (H1.out _).mono ?_; rintro e w' ⟨rfl, rfl⟩)
  go_ret
  exact ⟨rfl, hB⟩
 ·have h1 := fun w => civ_any n w h
  have hc := civ_is h
  generalize civY n = y at *
  generalize civM n = m at *
  generalize civD n = d at *
  have hd := mdy_bd y m
  obtain ⟨y0, y1, m0, m1, d0, d1, -⟩ := hc
  have h2 : ∀ w : World, Calls Try.prog 31 #[.int .i64 y, .int .i64 4] w fun e w' => e = .returned (.string (dgT 4 y)) ∧ Below w.heap.size w w' := fun w => pdigs_any y 4 (by omega) (by omega) (by omega) (by omega) w
  have h3 : ∀ w : World, Calls Try.prog 31 #[.int .i64 m, .int .i64 2] w fun e w' => e = .returned (.string (dgT 2 m)) ∧ Below w.heap.size w w' := fun w => pdigs_any m 2 (by omega) (by omega) (by omega) (by omega) w
  have h4 : ∀ w : World, Calls Try.prog 31 #[.int .i64 d, .int .i64 2] w fun e w' => e = .returned (.string (dgT 2 d)) ∧ Below w.heap.size w w' := fun w => pdigs_any d 2 (by omega) (by omega) (by omega) (by omega) w
  rw [if_pos rfl]
  unfold civT
  have s1 := dgT_size 4 y
  have s2 := dgT_size 2 m
  have s3 := dgT_size 2 d
  generalize dgT 4 y = Y at *
  generalize dgT 2 m = M at *
  generalize dgT 2 d = D at *
  have t1 : (Y ++ ⟨#[45]⟩ : ByteArray).size = 5 := by rw [ByteArray.size_append, s1]; rfl
  have t2 : (Y ++ ⟨#[45]⟩ ++ M : ByteArray).size = 7 := by rw [ByteArray.size_append, t1, s2]
  have t3 : (Y ++ ⟨#[45]⟩ ++ M ++ ⟨#[45]⟩ : ByteArray).size = 8 := by rw [ByteArray.size_append, t2]; rfl
  have H1 := Lib.hid h1
  have H2 := Lib.hid h2
  have H3 := Lib.hid h3
  have H4 := Lib.hid h4
  clear h1 h2 h3 h4 h t1 t2 t3
  go_enter Try.func19, Try.ntmps19
  go_wp2_with (first | (go_at_call 16; refine (H1.out _).mono ?_; rintro e w' ⟨rfl, hb⟩; replace hB := below_more hB hb; clear hb) | (go_at_call 31; first | ((with_reducible refine (H2.out _).mono ?_); rintro e w' ⟨rfl, hb⟩; replace hB := below_more hB hb; clear hb) | ((with_reducible refine (H3.out _).mono ?_); rintro e w' ⟨rfl, hb⟩; replace hB := below_more hB hb; clear hb) | ((with_reducible refine (H4.out _).mono ?_); rintro e w' ⟨rfl, hb⟩; replace hB := below_more hB hb; clear hb)))
  go_ret
  exact ⟨rfl, hB⟩
theorem pad_num6 (l : List UInt8) (h : ∀ c ∈ l, isDig c = true) : ∀ k, l.length = k → padk k (numOf l) = l := by
 intro k
 induction k generalizing l with
 | zero => intro hl; rw [List.eq_nil_of_length_eq_zero hl]; rfl
 | succ k ih =>
  intro hl
  rcases List.eq_nil_or_concat l with rfl | ⟨i, c, he⟩
  ·simp at hl
  ·rw [List.concat_eq_append] at he
   subst he
   have hc := isDig_iff.1 (h c (by simp))
   rw [padk, numOf_snoc]
   rw [show (10 * numOf i + (c.toNat - 48)) / 10 = numOf i by omega, show (10 * numOf i + (c.toNat - 48)) % 10 = c.toNat - 48 by omega, ih i (fun x hx => h x (by simp [hx])) (by simp at hl; omega)]
   congr 2
   apply UInt8.toNat_inj.1
   simp
   omega
theorem civT_list (y m d : Int) : (civT y m d).data.toList = padk 4 y.toNat ++ 45 :: (padk 2 m.toNat ++ 45 :: padk 2 d.toNat) := by
 unfold civT dgT
 simp [ByteArray.data_append]
theorem ext_list (s : ByteArray) (a b : Nat) : (s.extract a b).data.toList = (s.data.toList.take b).drop a := by
 simp [ByteArray.data_extract, List.drop_take]
theorem form_text {s : ByteArray} (h : fmB s = true) : civT (paY s) (paM s) (paD s) = s := by
 obtain ⟨h10, a1, b4, a2, b7, a3⟩ := fmB_is h
 apply bytes_eq6
 rw [civT_list]
 unfold paY paM paD numT
 rw [Int.toNat_natCast, Int.toNat_natCast, Int.toNat_natCast]
 unfold allD at a1 a2 a3
 rw [List.all_eq_true] at a1 a2 a3
 have hl : s.data.toList.length = 10 := by rw [← h10]; simp
 rw [pad_num6 _ a1 4 (by rw [ext_list]; simp; omega), pad_num6 _ a2 2 (by rw [ext_list]; simp; omega), pad_num6 _ a3 2 (by rw [ext_list]; simp; omega)]
 rw [ext_list, ext_list, ext_list, h10]
 unfold bt at b4 b7
 generalize s.data.toList = l at *
 match l, hl with
 | [c0, c1, c2, c3, c4, c5, c6, c7, c8, c9], _ =>
  have e4 : c4 = 45 := by apply UInt8.toNat_inj.1; show c4.toNat = 45; simp at b4; omega
  have e7 : c7 = 45 := by apply UInt8.toNat_inj.1; show c7.toNat = 45; simp at b7; omega
  subst e4 e7
  rfl
theorem parse_text {s : ByteArray} (h : paE s = 0) : txT (paN s) = s := by
 unfold paE at h
 cases hf : fmB s
 ·rw [hf] at h; simp at h
 ·rw [hf, if_pos rfl] at h
  have hc := of_ok h
  unfold paN
  rw [hf, if_pos rfl]
  obtain ⟨e1, e2, e3⟩ := civ_eq hc
  unfold txT
  rw [vdB_iff.2 hc.bd, if_pos rfl, e1, e2, e3]
  exact form_text hf
theorem law_dparse6 (s : ByteArray) (w : World) (hm : s.size ≤ maxLen) : Calls Try.prog 6 #[.string s] w fun e w' => e = .returned (.bool true) ∧ Below w.heap.size w w' := by
 have hB := Below.refl w.heap.size w
 unfold maxLen at hm
 by_cases hl : 40 < s.size
 ·have hl2 : (40 : Int) < s.size := by omega
  go_enter Try.func6, Try.ntmps6
  go_wp2_with (go_at_call 11; refine (dtawake_any _).mono ?_; rintro e w' ⟨rfl, hb⟩; replace hB := below_more hB hb; clear hb)
  go_ret
  exact ⟨rfl, hB⟩
 ·have hl2 : decide ((40 : Int) < s.size) = false := decide_eq_false (by omega)
  have h1 := fun w => dtparse_any s w (by omega)
  have h2 := fun w => dtrparse_any s w (by omega)
  have h3 := fun w => dttext_any (paN s) w
  by_cases he : paE s = 0
  ·have ht := parse_text he
   rw [ht] at h3
   rw [he] at h1 h2
   generalize paN s = n at *
   have H1 := Lib.hid h1
   have H2 := Lib.hid h2
   have H3 := Lib.hid h3
   clear h1 h2 h3 he ht hl
   go_enter Try.func6, Try.ntmps6
   go_wp2_with (first | (go_at_call 11; refine (dtawake_any _).mono ?_; rintro e w' ⟨rfl, hb⟩; replace hB := below_more hB hb; clear hb) | (go_at_call 19; refine (H3.out _).mono ?_; rintro e w' ⟨rfl, hb⟩; replace hB := below_more hB hb; clear hb) | (go_at_call 20; refine (H1.out _).mono ?_; rintro e w' ⟨rfl, hb⟩; replace hB := below_more hB hb; clear hb) | (go_at_call 23; refine (H2.out _).mono ?_; rintro e w' ⟨rfl, hb⟩; replace hB := below_more hB hb; clear hb))
   go_ret
   exact ⟨rfl, hB⟩
  ·have he2 : (paE s != 0) = true := by simpa using he
   generalize paN s = n at *
   generalize paE s = E at *
   have H1 := Lib.hid h1
   have H2 := Lib.hid h2
   clear h1 h2 h3 he hl
   go_enter Try.func6, Try.ntmps6
   go_wp2_with (first | (go_at_call 11; refine (dtawake_any _).mono ?_; rintro e w' ⟨rfl, hb⟩; replace hB := below_more hB hb; clear hb) | (go_at_call 20; refine (H1.out _).mono ?_; rintro e w' ⟨rfl, hb⟩; replace hB := below_more hB hb; clear hb) | (go_at_call 23; refine (H2.out _).mono ?_; rintro e w' ⟨rfl, hb⟩; replace hB := below_more hB hb; clear hb))
   go_ret
   exact ⟨rfl, hB⟩
/- The order of texts. -/
end Go.Proofs.Yteejefeociclbaa
