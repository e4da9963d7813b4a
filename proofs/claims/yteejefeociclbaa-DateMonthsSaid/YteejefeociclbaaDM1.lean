/- Contracts and the law of DateMonths, part 1: what was proved of each, callees first. -/
import Derived.Test.YteejefeociclbaaProg
import Derived.WalkKit
import Derived.WalkSpells
import Derived.Lib.Hide
import Derived.Deep.QuietTactic
import Derived.BigQuiet
import Derived.LoopTactic
import Derived.Deep.Draws
import Derived.Laws.Rows
import Derived.Laws.CopyOwn
import Derived.Deep.OwnRows
import Derived.Outline
import Derived.Test.YteejefeociclbaaDK1
namespace Go.Proofs.Yteejefeociclbaa
theorem IsCiv.yr {n y m d : Int} (h : IsCiv n y m d) : nyr y ≤ n ∧ n < nyr (y + 1) := by
 obtain ⟨a, b, c, e, f, g, rfl⟩ := h
 have h1 := nyr_succ y a
 have h2 := mon_succ y m c e
 have h3 := mon_bd (y := y) (m := m + 1) (by omega) (by omega)
 have h4 := mon_bd (y := y) (m := m) (by omega) (by omega)
 unfold dno
 omega
theorem IsCiv.bd {n y m d : Int} (h : IsCiv n y m d) : -25567 ≤ n ∧ n ≤ 84005 := by
 have h1 := h.yr
 have h2 := nyr_bd h.y0 (by have := h.y1; omega)
 have h3 := nyr_bd (y := y + 1) (by have := h.y0; omega) (by have := h.y1; omega)
 omega
theorem IsCiv.uniq {n y m d y' m' d' : Int} (h : IsCiv n y m d) (h' : IsCiv n y' m' d') : y = y' ∧ m = m' ∧ d = d' := by
 have hy := h.yr
 have hy' := h'.yr
 obtain ⟨a, b, c, e, f, g, k⟩ := h
 obtain ⟨a', b', c', e', f', g', k'⟩ := h'
 have e1 : y = y' := by
  rcases Int.lt_trichotomy y y' with hl | hl | hl
  ·have := nyr_mono (y := y + 1) (z := y') (by omega) (by omega); omega
  ·exact hl
  ·have := nyr_mono (y := y' + 1) (z := y) (by omega) (by omega); omega
 subst e1
 unfold dno at k k'
 have s := mon_succ y m c e
 have s' := mon_succ y m' c' e'
 have e2 : m = m' := by
  rcases Int.lt_trichotomy m m' with hl | hl | hl
  ·have := mon_mono (y := y) (m := m + 1) (n := m') (by omega) (by omega) (by omega); omega
  ·exact hl
  ·have := mon_mono (y := y) (m := m' + 1) (n := m) (by omega) (by omega) (by omega); omega
 subst e2
 exact ⟨rfl, rfl, by omega⟩

/- The year, the month and the day of a number of days. -/
def civY0 (n : Int) : Int := 1900 + (n + 25567) / 365
def civY (n : Int) : Int := if n < nyr (civY0 n) then civY0 n - 1 else civY0 n
def civR (n : Int) : Int := n - nyr (civY n)
def monOf (l r : Int) : Int := if r < 31 then 1 else if r < 59 + l then 2 else if r < 90 + l then 3 else if r < 120 + l then 4 else if r < 151 + l then 5 else if r < 181 + l then 6 else if r < 212 + l then 7 else if r < 243 + l then 8 else if r < 273 + l then 9 else if r < 304 + l then 10 else if r < 334 + l then 11 else 12
def civM (n : Int) : Int := monOf (lpI (civY n)) (civR n)
def civD (n : Int) : Int := civR n - mon (civY n) (civM n) + 1
theorem civY_bd {n : Int} (h0 : -25567 ≤ n) (h1 : n ≤ 84005) : 1900 ≤ civY n ∧ civY n ≤ 2199 ∧ nyr (civY n) ≤ n ∧ n < nyr (civY n + 1) := by
 unfold civY
 have e : civY0 n = 1900 + (n + 25567) / 365 := rfl
 have hk0 : 1900 ≤ civY0 n := by omega
 have hk1 : civY0 n ≤ 2200 := by omega
 have b0 := lpN_bd hk0 (by omega)
 have u : nyr (civY0 n) = -25567 + 365 * (civY0 n - 1900) + lpN (civY0 n) - 460 := rfl
 split
 ·rename_i hlt
  have hk2 : 1901 ≤ civY0 n := by
   rcases Int.lt_or_le (civY0 n) 1901 with hc | hc
   ·have hc2 : civY0 n = 1900 := by omega
    rw [hc2, nyr_1900] at hlt
    omega
   ·exact hc
  have s := nyr_succ (civY0 n - 1) (by omega)
  rw [show civY0 n - 1 + 1 = civY0 n by omega] at s ⊢
  have l := lpI_01 (civY0 n - 1)
  refine ⟨by omega, by omega, by omega, by omega⟩
 ·rename_i hge
  have s := nyr_succ (civY0 n) (by omega)
  have l := lpI_01 (civY0 n)
  refine ⟨by omega, ?_, by omega, by omega⟩
  rcases Int.lt_or_le 2199 (civY0 n) with hc | hc
  ·have hc2 : civY0 n = 2200 := by omega
   rw [hc2, nyr_2200] at hge
   omega
  ·exact hc
theorem monOf_is {l r : Int} (y : Int) (hl : lpI y = l) (h0 : 0 ≤ r) (h1 : r < 365 + l) : (1 ≤ monOf l r ∧ monOf l r ≤ 12) ∧ mon y (monOf l r) ≤ r ∧ r < mon y (monOf l r) + mdy y (monOf l r) := by
 have h01 := lpI_01 y
 rw [hl] at h01
 unfold monOf
 repeat' split
 all_goals (simp [mon, mdy, hl]; omega)
theorem civ_is {n : Int} (h : vdB n = true) : IsCiv n (civY n) (civM n) (civD n) := by
 obtain ⟨h0, h1⟩ := vdB_iff.1 h
 obtain ⟨a, b, c, d⟩ := civY_bd h0 h1
 have s := nyr_succ (civY n) a
 have r0 : 0 ≤ civR n := by unfold civR; omega
 have r1 : civR n < 365 + lpI (civY n) := by unfold civR; omega
 obtain ⟨⟨m0, m1⟩, k0, k1⟩ := monOf_is (civY n) rfl r0 r1
 have em : civM n = monOf (lpI (civY n)) (civR n) := rfl
 rw [← em] at m0 m1 k0 k1
 have ed : civD n = civR n - mon (civY n) (civM n) + 1 := rfl
 have er : civR n = n - nyr (civY n) := rfl
 refine ⟨a, b, m0, m1, by omega, by omega, ?_⟩
 unfold dno
 omega
theorem civ_eq {n y m d : Int} (h : IsCiv n y m d) : civY n = y ∧ civM n = m ∧ civD n = d :=
 (civ_is (vdB_iff.2 h.bd)).uniq h
theorem dys_bd (y m : Int) : 0 ≤ dys y m ∧ dys y m ≤ 31 := by
 have := mdy_bd y m
 unfold dys
 split <;> omega
theorem dayB_of {n y m d : Int} (h : IsCiv n y m d) : dayB y m d = true := dayB_iff.2 (by have := h.eq; subst this; exact h)
/- What Of answers. -/
open Go.RowKit
theorem rvd_any (n : Int) (w : World) : Calls Try.prog 21 #[.int .i64 n] w fun e w' => e = .returned (.bool (vdB n)) ∧ w = w' := by
 unfold vdB
 by_cases h1 : (-25567 : Int) ≤ n
 ·rw [decide_eq_true h1]
  go_enter Try.func21, Try.ntmps21
  go_wp2
  go_ret
  exact ⟨rfl, rfl⟩
 ·rw [decide_eq_false h1]
  have h3 : decide ((-25567 : Int) ≤ n) = false := decide_eq_false h1
  clear h1
  go_enter Try.func21, Try.ntmps21
  go_wp2
  go_ret
  exact ⟨rfl, rfl⟩
section
variable {k : IntKind} {t : TypeId} {w w' : World} {b o g B : Nat} {L : List Nat}
end
section
variable {k : IntKind} {t : TypeId} {w w' : World} {g B B' c : Nat} {A : Option Addr} {L : List Nat}
end
theorem dret_bool {a b : Bool} (h : a = b) : Ending.returned (.bool a) = .returned (.bool b) := by rw [h]
open Go.RowKit
theorem civ_no (n : Int) (w : World) (h : vdB n = false) : Calls Try.prog 16 #[.int .i64 n] w fun e w' => e = .returned (.tuple #[.int .i64 0, .int .i64 0, .int .i64 0, .int .i64 2]) ∧ w = w' := by
 have hv := fun w => vd_any n w
 rw [h] at hv
 have HV := Lib.hid hv
 clear hv h
 go_enter Try.func16, Try.ntmps16
 go_wp2_with (go_at_call 18; refine (HV.out _).mono ?_; rintro e w' ⟨rfl, rfl⟩)
 exact bodyPost_ret (v := .tuple #[.int .i64 0, .int .i64 0, .int .i64 0, .int .i64 2]) (by simp [results, Try.results16, go_sem]) rfl ⟨rfl, rfl⟩
theorem civ_loop {n y m d : Int} (h : IsCiv n y m d) {b : Int} (b0 : 1 ≤ b) (b1 : b ≤ m) : (b < m → mdy y b < n - nyr y - mon y b + 1) ∧ (b = m → ¬ mdy y b < n - nyr y - mon y b + 1) := by
 obtain ⟨y0, y1, m0, m1, d0, d1, rfl⟩ := h
 unfold dno
 constructor
 ·intro hlt
  have h1 := mon_succ y b b0 (by omega)
  have h2 := mon_mono (y := y) (m := b + 1) (n := m) (by omega) (by omega) (by omega)
  omega
 ·rintro rfl
  omega
theorem civ_yes (n y m d : Int) (w : World) (h : IsCiv n y m d) : Calls Try.prog 16 #[.int .i64 n] w fun e w' => e = .returned (.tuple #[.int .i64 y, .int .i64 m, .int .i64 d, .int .i64 0]) ∧ Below w.heap.size w w' := by
 have hv := fun w => vd_any n w
 have hv1 := vdB_iff.2 h.bd
 rw [hv1] at hv
 have HV := Lib.hid hv
 obtain ⟨n0, n1⟩ := h.bd
 obtain ⟨c0, c1, c2, c3⟩ := civY_bd n0 n1
 have hY := (civ_eq h).1
 have HC := Lib.hid h
 have hd : n - nyr y - mon y m + 1 = d := by have := h.eq; unfold dno at this; omega
 obtain ⟨y0, y1, m0, m1, d0, d1, -⟩ := h
 have hB := Below.refl w.heap.size w
 have e0 : civY0 n = 1900 + (n + 25567) / 365 := rfl
 have k0 : 1900 ≤ civY0 n := by omega
 have k1 : civY0 n ≤ 2200 := by omega
 have e1 : civY n = if n < nyr (civY0 n) then civY0 n - 1 else civY0 n := rfl
 clear hv hv1
 by_cases hg : n < nyr (civY0 n)
 ·rw [if_pos hg] at e1
  have e2 : civY0 n - 1 = y := by omega
  rw [e0] at hg e2 k0 k1
  have k2 : -25567 ≤ nyr (1900 + (n + 25567) / 365) ∧ nyr (1900 + (n + 25567) / 365) ≤ 84006 := nyr_bd k0 (by omega)
  have k3 : 1900 ≤ 1900 + (n + 25567) / 365 - 1 := by omega
  have k4 : -25567 ≤ nyr (1900 + (n + 25567) / 365 - 1) ∧ nyr (1900 + (n + 25567) / 365 - 1) ≤ 84006 := nyr_bd k3 (by omega)
  have E2 := Lib.hid e2
  have HD := Lib.hid hd
  clear e0 e1 e2 hY hd
  go_enter Try.func16, Try.ntmps16
  go_wp2_with (first | (go_at_call 18; refine (HV.out _).mono ?_; rintro e w' ⟨rfl, rfl⟩) | (go_at_call 28; refine (newYear_any _ _ (by omega) (by omega)).mono ?_; rintro e w' ⟨rfl, rfl⟩))
  rw [E2.out]
  go_loopw [3, 4] (fun v1 v2 w1 => ∃ b : Int, 1 ≤ b ∧ b ≤ m ∧ v1 = .int .i64 b ∧ v2 = .int .i64 (n - nyr y - mon y b + 1) ∧ Below w.heap.size w w1) (fun v1 v2 w1 => (m - intOf v1).toNat)
  case atStart => exact ⟨1, by omega, by omega, rfl, by rw [mon_1]; go_num, hB⟩
  case round =>
   obtain ⟨b, b0, b1, rfl, rfl, hB1⟩ := hrel
   have hm := mon_bd (y := y) (m := b) (by omega) (by omega)
   have hlp := lpI_01 y
   have hnb := nyr_bd (y := y) (by omega) (by omega)
   have hL := civ_loop HC.out b0 b1
   have hb0 := mdy_bd y b
   have hi : inYM y b = true := inYM_iff.2 ⟨by omega, by omega, by omega, by omega⟩
   have hy := fun w => days_any y b w
   rw [dys_in hi] at hy
   have HY := Lib.hid hy
   clear hy hi
   by_cases hlt : b < m
   ·have hs := mon_succ y b (by omega) (by omega)
    have hL2 := hL.1 hlt
    have HS := Lib.hid hs
    clear hs hL
    go_wp2_with (go_at_call 14; refine (HY.out _).mono ?_; rintro e w' ⟨rfl, hb⟩; replace hB1 := below_more hB1 hb; clear hb)
    go_roundw
    case rel => exact ⟨b + 1, by omega, by omega, rfl, by rw [HS.out]; go_num, hB1⟩
    case measure => simp [intOf]; omega
   ·obtain rfl : b = m := by omega
    have hL2 := hL.2 rfl
    clear hL hlt
    go_wp2_with (go_at_call 14; refine (HY.out _).mono ?_; rintro e w' ⟨rfl, hb⟩; replace hB1 := below_more hB1 hb; clear hb)
    exact bodyPost_ret (v := .tuple #[.int .i64 y, .int .i64 b, .int .i64 (n - nyr y - mon y b + 1), .int .i64 0]) (by simp [results, Try.results16, go_sem]) rfl ⟨by rw [HD.out], hB1⟩
 ·rw [if_neg hg] at e1
  have e2 : civY0 n = y := by omega
  rw [e0] at hg e2 k0 k1
  have k2 : -25567 ≤ nyr (1900 + (n + 25567) / 365) ∧ nyr (1900 + (n + 25567) / 365) ≤ 84006 := nyr_bd k0 (by omega)
  have E2 := Lib.hid e2
  have HD := Lib.hid hd
  clear e0 e1 e2 hY hd
  go_enter Try.func16, Try.ntmps16
  go_wp2_with (first | (go_at_call 18; refine (HV.out _).mono ?_; rintro e w' ⟨rfl, rfl⟩) | (go_at_call 28; refine (newYear_any _ _ (by omega) (by omega)).mono ?_; rintro e w' ⟨rfl, rfl⟩))
  rw [E2.out]
  go_loopw [3, 4] (fun v1 v2 w1 => ∃ b : Int, 1 ≤ b ∧ b ≤ m ∧ v1 = .int .i64 b ∧ v2 = .int .i64 (n - nyr y - mon y b + 1) ∧ Below w.heap.size w w1) (fun v1 v2 w1 => (m - intOf v1).toNat)
  case atStart => exact ⟨1, by omega, by omega, rfl, by rw [mon_1]; go_num, hB⟩
  case round =>
   obtain ⟨b, b0, b1, rfl, rfl, hB1⟩ := hrel
   have hm := mon_bd (y := y) (m := b) (by omega) (by omega)
   have hlp := lpI_01 y
   have hnb := nyr_bd (y := y) (by omega) (by omega)
   have hL := civ_loop HC.out b0 b1
   have hb0 := mdy_bd y b
   have hi : inYM y b = true := inYM_iff.2 ⟨by omega, by omega, by omega, by omega⟩
   have hy := fun w => days_any y b w
   rw [dys_in hi] at hy
   have HY := Lib.hid hy
   clear hy hi
   by_cases hlt : b < m
   ·have hs := mon_succ y b (by omega) (by omega)
    have hL2 := hL.1 hlt
    have HS := Lib.hid hs
    clear hs hL
    go_wp2_with (go_at_call 14; refine (HY.out _).mono ?_; rintro e w' ⟨rfl, hb⟩; replace hB1 := below_more hB1 hb; clear hb)
    go_roundw
    case rel => exact ⟨b + 1, by omega, by omega, rfl, by rw [HS.out]; go_num, hB1⟩
    case measure => simp [intOf]; omega
   ·obtain rfl : b = m := by omega
    have hL2 := hL.2 rfl
    clear hL hlt
    go_wp2_with (go_at_call 14; refine (HY.out _).mono ?_; rintro e w' ⟨rfl, hb⟩; replace hB1 := below_more hB1 hb; clear hb)
    exact bodyPost_ret (v := .tuple #[.int .i64 y, .int .i64 b, .int .i64 (n - nyr y - mon y b + 1), .int .i64 0]) (by simp [results, Try.results16, go_sem]) rfl ⟨by rw [HD.out], hB1⟩
theorem civ_any (n : Int) (w : World) (h : vdB n = true) : Calls Try.prog 16 #[.int .i64 n] w fun e w' => e = .returned (.tuple #[.int .i64 (civY n), .int .i64 (civM n), .int .i64 (civD n), .int .i64 0]) ∧ Below w.heap.size w w' := civ_yes n _ _ _ w (civ_is h)
theorem ret_two {a b c d : Int} (h1 : a = c) (h2 : b = d) : Ending.returned (.tuple #[.int .i64 a, .int .i64 b]) = .returned (.tuple #[.int .i64 c, .int .i64 d]) := by rw [h1, h2]
/- The month that lies k months after that of n. -/
def amT (n k : Int) : Int := 12 * civY n + civM n - 1 + k
def nearB (k : Int) : Bool := decide (-3600 ≤ k) && decide (k ≤ 3600)
theorem nearB_iff {k : Int} : nearB k = true ↔ -3600 ≤ k ∧ k ≤ 3600 := by simp [nearB]
def adY (n k : Int) : Int := amT n k / 12
def adM (n k : Int) : Int := amT n k % 12 + 1
def adD (n k : Int) : Int := min (civD n) (dys (adY n k) (adM n k))
def adB (n k : Int) : Bool := vdB n && nearB k
def adN (n k : Int) : Int := if adB n k then ofN (adY n k) (adM n k) (adD n k) else 0
def adE (n k : Int) : Int := if adB n k then ofE (adY n k) (adM n k) (adD n k) else 2
theorem add_no (n k : Int) (w : World) (h : vdB n = false) : Calls Try.prog 25 #[.int .i64 n, .int .i64 k] w fun e w' => e = .returned (.tuple #[.int .i64 (adN n k), .int .i64 (adE n k)]) ∧ Below w.heap.size w w' := by
 have hv := fun w => civ_no n w h
 rw [show adN n k = 0 by unfold adN adB; rw [h]; rfl, show adE n k = 2 by unfold adE adB; rw [h]; rfl]
 have HV := Lib.hid hv
 clear hv h
 go_enter Try.func25, Try.ntmps25
 go_wp2_with (go_at_call 16; refine (HV.out _).mono ?_; rintro e w' ⟨rfl, rfl⟩)
 go_ret2
 exact ⟨rfl, Below.refl _ _⟩
theorem add_near (n k : Int) (w : World) (h : vdB n = true) (hk : nearB k = true) : Calls Try.prog 25 #[.int .i64 n, .int .i64 k] w fun e w' => e = .returned (.tuple #[.int .i64 (adN n k), .int .i64 (adE n k)]) ∧ Below w.heap.size w w' := by
 have hv := fun w => civ_any n w h
 rw [show adN n k = ofN (adY n k) (adM n k) (adD n k) by unfold adN adB; rw [h, hk]; rfl, show adE n k = ofE (adY n k) (adM n k) (adD n k) by unfold adE adB; rw [h, hk]; rfl]
 obtain ⟨y0, y1, m0, m1, d0, d1, -⟩ := civ_is h
 obtain ⟨k0, k1⟩ := nearB_iff.1 hk
 have hmd := mdy_bd (civY n) (civM n)
 have hdy := dys_bd (adY n k) (adM n k)
 unfold adD adY adM amT at *
 generalize civY n = y at *
 generalize civM n = m at *
 generalize civD n = d at *
 have HV := Lib.hid hv
 clear hv h hk
 have hB := Below.refl w.heap.size w
 go_enter Try.func25, Try.ntmps25
 go_wp2_with (first | (go_at_call 16; refine (HV.out _).mono ?_; rintro e w' ⟨rfl, hb⟩; replace hB := below_more hB hb; clear hb) | (go_at_call 14; refine (days_any _ _ _).mono ?_; rintro e w' ⟨rfl, hb⟩; replace hB := below_more hB hb; clear hb) | (go_at_call 12; refine (dtof_any _ _ _ _).mono ?_; rintro e w' ⟨rfl, hb⟩; replace hB := below_more hB hb; clear hb))
 all_goals
  go_ret2
  exact ⟨ret_two (by congr 1; omega) (by congr 1; omega), hB⟩
/- A month that is far away has no days. -/
theorem no_days {Y M e : Int} (h : dys Y M = 0) : ofN Y M e = 0 ∧ ofE Y M e = 2 := by
 have hd : dayB Y M e = false := by
  cases hc : dayB Y M e
  ·rfl
  ·have := dayB_yes hc; omega
 unfold ofN ofE
 rw [hd]
 exact ⟨rfl, rfl⟩
theorem far_days {y m k : Int} (M : Int) (y0 : 1900 ≤ y) (y1 : y ≤ 2199) (m0 : 1 ≤ m) (m1 : m ≤ 12) (hk : nearB k = false) (hr : -9223372036854775808 ≤ k ∧ k < 9223372036854775808) :
  dys (wrap64 ((wrap64 (12 * y + m - 1 + k)).tdiv 12)) M = 0 := by
 have hk2 : k < -3600 ∨ 3600 < k := by
  have h2 : ¬ (-3600 ≤ k ∧ k ≤ 3600) := fun e => by rw [nearB_iff.2 e] at hk; cases hk
  omega
 have hT : 12 * y + m - 1 + k < 22800 ∨ 26400 ≤ 12 * y + m - 1 + k := by omega
 have hT2 : -9223372036854775808 ≤ 12 * y + m - 1 + k ∧ 12 * y + m - 1 + k < 9223372036854802208 := by omega
 generalize 12 * y + m - 1 + k = T at *
 have h1 : wrap64 (T) < 22800 ∨ 26400 ≤ wrap64 (T) := by
  unfold wrap64; omega
 have h2 : -9223372036854775808 ≤ wrap64 (T) ∧ wrap64 (T) < 9223372036854775808 := by
  unfold wrap64; omega
 generalize wrap64 (T) = t at *
 have h3 : t.tdiv 12 < 1900 ∨ 2199 < t.tdiv 12 := by
  rcases Int.lt_or_le t 0 with hn | hp
  ·have : t.tdiv 12 ≤ 0 := by
    have h4 : t = -(-t) := by omega
    rw [h4, Int.neg_tdiv, Int.tdiv_eq_ediv_of_nonneg (by omega)]
    omega
   omega
  ·rw [Int.tdiv_eq_ediv_of_nonneg hp]
   omega
 have h4 : -9223372036854775808 ≤ t.tdiv 12 ∧ t.tdiv 12 < 9223372036854775808 := by
  rcases Int.lt_or_le t 0 with hn | hp
  ·have h4 : t = -(-t) := by omega
   rw [h4, Int.neg_tdiv, Int.tdiv_eq_ediv_of_nonneg (by omega)]
   omega
  ·rw [Int.tdiv_eq_ediv_of_nonneg hp]
   omega
 have h5 : wrap64 (t.tdiv 12) = t.tdiv 12 := by unfold wrap64; omega
 rw [h5]
 apply dys_out
 cases hi : inYM (t.tdiv 12) M
 ·rfl
 ·have := inYM_iff.1 hi; omega
theorem add_far (n k : Int) (w : World) (h : vdB n = true) (hk : nearB k = false) (hr : -9223372036854775808 ≤ k ∧ k < 9223372036854775808) : Calls Try.prog 25 #[.int .i64 n, .int .i64 k] w fun e w' => e = .returned (.tuple #[.int .i64 (adN n k), .int .i64 (adE n k)]) ∧ Below w.heap.size w w' := by
 have hv := fun w => civ_any n w h
 rw [show adN n k = 0 by unfold adN adB; rw [h, hk]; rfl, show adE n k = 2 by unfold adE adB; rw [h, hk]; rfl]
 obtain ⟨y0, y1, m0, m1, d0, d1, -⟩ := civ_is h
 have hmd := mdy_bd (civY n) (civM n)
 have hf := fun M => far_days M y0 y1 m0 m1 hk hr
 generalize civY n = y at *
 generalize civM n = m at *
 generalize civD n = d at *
 have HV := Lib.hid hv
 have HF := Lib.hid hf
 clear hv h hk hr hf
 have hB := Below.refl w.heap.size w
 go_enter Try.func25, Try.ntmps25
 go_wp2_with (first | (go_at_call 16; refine (HV.out _).mono ?_; rintro e w' ⟨rfl, hb⟩; replace hB := below_more hB hb; clear hb) | (go_at_call 14; refine (days_any _ _ _).mono ?_; rintro e w' ⟨rfl, hb⟩; replace hB := below_more hB hb; clear hb) | (go_at_call 12; refine (dtof_any _ _ _ _).mono ?_; rintro e w' ⟨rfl, hb⟩; replace hB := below_more hB hb; clear hb))
 all_goals
  go_ret2
  exact ⟨ret_two (no_days (HF.out _)).1 (no_days (HF.out _)).2, hB⟩
theorem dtadd_any (n k : Int) (w : World) (hr : -9223372036854775808 ≤ k ∧ k < 9223372036854775808) : Calls Try.prog 25 #[.int .i64 n, .int .i64 k] w fun e w' => e = .returned (.tuple #[.int .i64 (adN n k), .int .i64 (adE n k)]) ∧ Below w.heap.size w w' := by
 cases h : vdB n
 ·exact add_no n k w h
 ·cases hk : nearB k
  ·exact add_far n k w h hk hr
  ·exact add_near n k w h hk
theorem of_civ {n y m d : Int} (h : IsCiv n y m d) : ofN y m d = n ∧ ofE y m d = 0 := by
 unfold ofN ofE
 rw [dayB_of h]
 exact ⟨h.eq.symm, rfl⟩
theorem add_small {n y m d k : Int} (h : IsCiv n y m d) (hd : d ≤ 28) (hk : nearB k = true) : adN n k = ofN ((12 * y + m - 1 + k) / 12) ((12 * y + m - 1 + k) % 12 + 1) d ∧ adE n k = ofE ((12 * y + m - 1 + k) / 12) ((12 * y + m - 1 + k) % 12 + 1) d := by
 have hv := vdB_iff.2 h.bd
 obtain ⟨e1, e2, e3⟩ := civ_eq h
 unfold adN adE adB adD adY adM amT
 rw [hv, hk, e1, e2, e3]
 simp only [Bool.and_true, if_true]
 generalize (12 * y + m - 1 + k) / 12 = Y
 generalize (12 * y + m - 1 + k) % 12 + 1 = M
 cases hi : inYM Y M
 ·have e := dys_out hi
  exact ⟨by rw [(no_days e).1, (no_days e).1], by rw [(no_days e).2, (no_days e).2]⟩
 ·have e := dys_in hi
  have hb := mdy_bd Y M
  rw [e, Int.min_eq_left (by omega)]
  exact ⟨rfl, rfl⟩
theorem add_zero6 {n y m d : Int} (h : IsCiv n y m d) : adN n 0 = n ∧ adE n 0 = 0 := by
 have hv := vdB_iff.2 h.bd
 obtain ⟨e1, e2, e3⟩ := civ_eq h
 have h0 := h.m0
 have h1 := h.m1
 unfold adN adE adB adD adY adM amT
 rw [hv, show nearB 0 = true from rfl, e1, e2, e3, show (12 * y + m - 1 + 0) / 12 = y by omega, show (12 * y + m - 1 + 0) % 12 + 1 = m by omega, dys_in (inYM_iff.2 ⟨h.y0, h.y1, h.m0, h.m1⟩), Int.min_eq_left h.d1]
 exact of_civ h
theorem of_ok {y m d : Int} (h : ofE y m d = 0) : IsCiv (ofN y m d) y m d := by
 unfold ofE at h
 unfold ofN
 cases hd : dayB y m d
 ·rw [hd] at h; exact absurd h (by decide)
 ·exact dayB_iff.1 hd
structure MonOk (n y m d a b x : Int) : Prop where
 x0 : IsCiv x ((12 * y + m - 1 + a) / 12) ((12 * y + m - 1 + a) % 12 + 1) d
 back : adN x (-a) = n ∧ adE x (-a) = 0
 two : adN x b = adN n (a + b) ∧ adE x b = adE n (a + b)
 year : adN n 12 = ofN (y + 1) m d ∧ adE n 12 = ofE (y + 1) m d
theorem mon_ok {n y m d a b : Int} (h : IsCiv n y m d) (hd : d ≤ 28) (ha : -128 ≤ a ∧ a ≤ 127) (hb : -128 ≤ b ∧ b ≤ 127) (he : adE n a = 0) : MonOk n y m d a b (adN n a) := by
 have hna : nearB a = true := nearB_iff.2 ⟨by omega, by omega⟩
 obtain ⟨s1, s2⟩ := add_small h hd hna
 rw [s2] at he
 have hx := of_ok he
 rw [← s1] at hx
 have h0 := h.m0
 have h1 := h.m1
 have hT : 12 * ((12 * y + m - 1 + a) / 12) + ((12 * y + m - 1 + a) % 12 + 1) - 1 = 12 * y + m - 1 + a := by omega
 refine ⟨hx, ?_, ?_, ?_⟩
 ·obtain ⟨t1, t2⟩ := add_small hx hd (k := -a) (nearB_iff.2 ⟨by omega, by omega⟩)
  rw [hT, show (12 * y + m - 1 + a + -a) / 12 = y by omega, show (12 * y + m - 1 + a + -a) % 12 + 1 = m by omega] at t1 t2
  rw [t1, t2]
  exact of_civ h
 ·obtain ⟨t1, t2⟩ := add_small hx hd (k := b) (nearB_iff.2 ⟨by omega, by omega⟩)
  obtain ⟨r1, r2⟩ := add_small h hd (k := a + b) (nearB_iff.2 ⟨by omega, by omega⟩)
  rw [hT] at t1 t2
  rw [t1, t2, r1, r2, show 12 * y + m - 1 + (a + b) = 12 * y + m - 1 + a + b by omega]
  exact ⟨rfl, rfl⟩
 ·obtain ⟨t1, t2⟩ := add_small h hd (k := 12) rfl
  rw [show (12 * y + m - 1 + 12) / 12 = y + 1 by omega, show (12 * y + m - 1 + 12) % 12 + 1 = m by omega] at t1 t2
  exact ⟨t1, t2⟩
theorem law_dmon (n a b : Int) (w : World) (ha : -128 ≤ a ∧ a ≤ 127) (hb : -128 ≤ b ∧ b ≤ 127) : Calls Try.prog 10 #[.int .i64 n, .int .i8 a, .int .i8 b] w fun e w' => e = .returned (.bool true) ∧ Below w.heap.size w w' := by
 have hB := Below.refl w.heap.size w
 have hv := fun w => rvd_any n w
 cases h : vdB n
 ·rw [h] at hv
  have HV := Lib.hid hv
  clear hv h
  go_enter Try.func10, Try.ntmps10
  go_wp2_with (first | (go_at_call 11; refine (dtawake_any _).mono ?_; rintro e w' ⟨rfl, hb⟩; replace hB := below_more hB hb; clear hb) | (go_at_call 21; refine (HV.out _).mono ?_; rintro e w' ⟨rfl, rfl⟩))
  go_ret
  exact ⟨rfl, hB⟩
 ·rw [h] at hv
  have HV := Lib.hid hv
  have hc := civ_is h
  have h1 := fun w => civ_any n w h
  generalize civY n = y at *
  generalize civM n = m at *
  generalize civD n = d at *
  have h2 := fun w => dtadd_any n a w (by omega)
  have h3 := fun w => dtadd_any n 0 w (by omega)
  rw [(add_zero6 hc).1, (add_zero6 hc).2] at h3
  have hdb : 1 ≤ d ∧ d ≤ 31 := ⟨hc.d0, by have := hc.d1; have := mdy_bd y m; omega⟩
  obtain ⟨a0, a1⟩ := ha
  obtain ⟨b0, b1⟩ := hb
  obtain ⟨d0, d1⟩ := hdb
  have H1 := Lib.hid h1
  have H3 := Lib.hid h3
  clear hv h h1 h3
  by_cases hd : 28 < d
  ·have H2 := Lib.hid h2
   clear h2 hc
   go_enter Try.func10, Try.ntmps10
   go_wp2_with (first | (go_at_call 11; refine (dtawake_any _).mono ?_; rintro e w' ⟨rfl, hb⟩; replace hB := below_more hB hb; clear hb) | (go_at_call 21; refine (HV.out _).mono ?_; rintro e w' ⟨rfl, rfl⟩) | (go_at_call 16; refine (H1.out _).mono ?_; rintro e w' ⟨rfl, hb⟩; replace hB := below_more hB hb; clear hb) | (go_at_call 25; first | ((with_reducible refine (H3.out _).mono ?_); rintro e w' ⟨rfl, hb⟩; replace hB := below_more hB hb; clear hb) | ((with_reducible refine (H2.out _).mono ?_); rintro e w' ⟨rfl, hb⟩; replace hB := below_more hB hb; clear hb)))
   go_ret
   exact ⟨rfl, hB⟩
  ·have hd2 : decide (28 < d) = false := decide_eq_false hd
   by_cases he : adE n a = 0
   ·have hm := mon_ok (b := b) hc (by omega) ⟨a0, a1⟩ ⟨b0, b1⟩ he
    rw [he] at h2
    generalize adN n a = x at *
    have h4 := fun w => civ_yes x _ _ _ w hm.x0
    have h5 := fun w => dtadd_any x (-a) w (by omega)
    rw [hm.back.1, hm.back.2] at h5
    have h6 := fun w => dtadd_any x b w (by omega)
    rw [hm.two.1, hm.two.2] at h6
    have h7 := fun w => dtadd_any n (a + b) w (by omega)
    have h8 := fun w => dtadd_any n 12 w (by omega)
    rw [hm.year.1, hm.year.2] at h8
    have h9 := fun w => dtof_any (y + 1) m d w
    have hy0 := hc.y0
    have hy1 := hc.y1
    clear hm he hc hd
    generalize (12 * y + m - 1 + a) / 12 = Y at *
    generalize (12 * y + m - 1 + a) % 12 + 1 = M at *
    generalize adN n (a + b) = z1 at *
    generalize adE n (a + b) = z2 at *
    generalize ofN (y + 1) m d = z3 at *
    generalize ofE (y + 1) m d = z4 at *
    have H2 := Lib.hid h2
    have H4 := Lib.hid h4
    have H5 := Lib.hid h5
    have H6 := Lib.hid h6
    have H7 := Lib.hid h7
    have H8 := Lib.hid h8
    have H9 := Lib.hid h9
    clear h2 h4 h5 h6 h7 h8 h9
    go_enter Try.func10, Try.ntmps10
    go_wp2_with (first | (go_at_call 11; refine (dtawake_any _).mono ?_; rintro e w' ⟨rfl, hb⟩; replace hB := below_more hB hb; clear hb) | (go_at_call 21; refine (HV.out _).mono ?_; rintro e w' ⟨rfl, rfl⟩) | (go_at_call 16; first | ((with_reducible refine (H1.out _).mono ?_); rintro e w' ⟨rfl, hb⟩; replace hB := below_more hB hb; clear hb) | ((with_reducible refine (H4.out _).mono ?_); rintro e w' ⟨rfl, hb⟩; replace hB := below_more hB hb; clear hb)) | (go_at_call 25; first | ((with_reducible refine (H3.out _).mono ?_); rintro e w' ⟨rfl, hb⟩; replace hB := below_more hB hb; clear hb) | ((with_reducible refine (H2.out _).mono ?_); rintro e w' ⟨rfl, hb⟩; replace hB := below_more hB hb; clear hb) | ((with_reducible refine (H5.out _).mono ?_); rintro e w' ⟨rfl, hb⟩; replace hB := below_more hB hb; clear hb) | ((with_reducible refine (H6.out _).mono ?_); rintro e w' ⟨rfl, hb⟩; replace hB := below_more hB hb; clear hb) | ((with_reducible refine (H7.out _).mono ?_); rintro e w' ⟨rfl, hb⟩; replace hB := below_more hB hb; clear hb) | ((with_reducible refine (H8.out _).mono ?_); rintro e w' ⟨rfl, hb⟩; replace hB := below_more hB hb; clear hb)) | (go_at_call 12; refine (H9.out _).mono ?_; rintro e w' ⟨rfl, hb⟩; replace hB := below_more hB hb; clear hb))
    go_ret
    exact ⟨dret_bool (by simp), hB⟩
   ·have he2 : (adE n a != 0) = true := by simpa using he
    generalize adE n a = E at *
    generalize adN n a = X at *
    have H2 := Lib.hid h2
    clear h2 hc he hd
    go_enter Try.func10, Try.ntmps10
    go_wp2_with (first | (go_at_call 11; refine (dtawake_any _).mono ?_; rintro e w' ⟨rfl, hb⟩; replace hB := below_more hB hb; clear hb) | (go_at_call 21; refine (HV.out _).mono ?_; rintro e w' ⟨rfl, rfl⟩) | (go_at_call 16; refine (H1.out _).mono ?_; rintro e w' ⟨rfl, hb⟩; replace hB := below_more hB hb; clear hb) | (go_at_call 25; first | ((with_reducible refine (H3.out _).mono ?_); rintro e w' ⟨rfl, hb⟩; replace hB := below_more hB hb; clear hb) | ((with_reducible refine (H2.out _).mono ?_); rintro e w' ⟨rfl, hb⟩; replace hB := below_more hB hb; clear hb)))
    go_ret
    exact ⟨rfl, hB⟩
end Go.Proofs.Yteejefeociclbaa
