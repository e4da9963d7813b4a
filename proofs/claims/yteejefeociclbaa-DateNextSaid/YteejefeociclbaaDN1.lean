/- Contracts and the law of DateNext, part 1: what was proved of each, callees first. -/
import Derived.Test.YteejefeociclbaaProg
import Derived.WalkKit
import Derived.WalkSpells
import Derived.Lib.Hide
import Derived.Deep.QuietTactic
import Derived.BigQuiet
import Derived.LoopTactic
import Derived.Deep.Draws
import Derived.Laws.Rows
import Derived.Laws.CopyOwn
import Derived.Deep.OwnRows
import Derived.Outline
import Derived.Test.YteejefeociclbaaDK1
namespace Go.Proofs.Yteejefeociclbaa
theorem IsCiv.yr {n y m d : Int} (h : IsCiv n y m d) : nyr y ≤ n ∧ n < nyr (y + 1) := by
 obtain ⟨a, b, c, e, f, g, rfl⟩ := h
 have h1 := nyr_succ y a
 have h2 := mon_succ y m c e
 have h3 := mon_bd (y := y) (m := m + 1) (by omega) (by omega)
 have h4 := mon_bd (y := y) (m := m) (by omega) (by omega)
 unfold dno
 omega
theorem IsCiv.bd {n y m d : Int} (h : IsCiv n y m d) : -25567 ≤ n ∧ n ≤ 84005 := by
 have h1 := h.yr
 have h2 := nyr_bd h.y0 (by have := h.y1; omega)
 have h3 := nyr_bd (y := y + 1) (by have := h.y0; omega) (by have := h.y1; omega)
 omega
theorem IsCiv.uniq {n y m d y' m' d' : Int} (h : IsCiv n y m d) (h' : IsCiv n y' m' d') : y = y' ∧ m = m' ∧ d = d' := by
 have hy := h.yr
 have hy' := h'.yr
 obtain ⟨a, b, c, e, f, g, k⟩ := h
 obtain ⟨a', b', c', e', f', g', k'⟩ := h'
 have e1 : y = y' := by
  rcases Int.lt_trichotomy y y' with hl | hl | hl
  ·have := nyr_mono (y := y + 1) (z := y') (by omega) (by omega); omega
  ·exact hl
  ·have := nyr_mono (y := y' + 1) (z := y) (by omega) (by omega); omega
 subst e1
 unfold dno at k k'
 have s := mon_succ y m c e
 have s' := mon_succ y m' c' e'
 have e2 : m = m' := by
  rcases Int.lt_trichotomy m m' with hl | hl | hl
  ·have := mon_mono (y := y) (m := m + 1) (n := m') (by omega) (by omega) (by omega); omega
  ·exact hl
  ·have := mon_mono (y := y) (m := m' + 1) (n := m) (by omega) (by omega) (by omega); omega
 subst e2
 exact ⟨rfl, rfl, by omega⟩

/- The year, the month and the day of a number of days. -/
def civY0 (n : Int) : Int := 1900 + (n + 25567) / 365
def civY (n : Int) : Int := if n < nyr (civY0 n) then civY0 n - 1 else civY0 n
def civR (n : Int) : Int := n - nyr (civY n)
def monOf (l r : Int) : Int := if r < 31 then 1 else if r < 59 + l then 2 else if r < 90 + l then 3 else if r < 120 + l then 4 else if r < 151 + l then 5 else if r < 181 + l then 6 else if r < 212 + l then 7 else if r < 243 + l then 8 else if r < 273 + l then 9 else if r < 304 + l then 10 else if r < 334 + l then 11 else 12
def civM (n : Int) : Int := monOf (lpI (civY n)) (civR n)
def civD (n : Int) : Int := civR n - mon (civY n) (civM n) + 1
theorem civY_bd {n : Int} (h0 : -25567 ≤ n) (h1 : n ≤ 84005) : 1900 ≤ civY n ∧ civY n ≤ 2199 ∧ nyr (civY n) ≤ n ∧ n < nyr (civY n + 1) := by
 unfold civY
 have e : civY0 n = 1900 + (n + 25567) / 365 := rfl
 have hk0 : 1900 ≤ civY0 n := by omega
 have hk1 : civY0 n ≤ 2200 := by omega
 have b0 := lpN_bd hk0 (by omega)
 have u : nyr (civY0 n) = -25567 + 365 * (civY0 n - 1900) + lpN (civY0 n) - 460 := rfl
 split
 ·rename_i hlt
  have hk2 : 1901 ≤ civY0 n := by
   rcases Int.lt_or_le (civY0 n) 1901 with hc | hc
   ·have hc2 : civY0 n = 1900 := by omega
    rw [hc2, nyr_1900] at hlt
    omega
   ·exact hc
  have s := nyr_succ (civY0 n - 1) (by omega)
  rw [show civY0 n - 1 + 1 = civY0 n by omega] at s ⊢
  have l := lpI_01 (civY0 n - 1)
  refine ⟨by omega, by omega, by omega, by omega⟩
 ·rename_i hge
  have s := nyr_succ (civY0 n) (by omega)
  have l := lpI_01 (civY0 n)
  refine ⟨by omega, ?_, by omega, by omega⟩
  rcases Int.lt_or_le 2199 (civY0 n) with hc | hc
  ·have hc2 : civY0 n = 2200 := by omega
   rw [hc2, nyr_2200] at hge
   omega
  ·exact hc
theorem monOf_is {l r : Int} (y : Int) (hl : lpI y = l) (h0 : 0 ≤ r) (h1 : r < 365 + l) : (1 ≤ monOf l r ∧ monOf l r ≤ 12) ∧ mon y (monOf l r) ≤ r ∧ r < mon y (monOf l r) + mdy y (monOf l r) := by
 have h01 := lpI_01 y
 rw [hl] at h01
 unfold monOf
 repeat' split
 all_goals (simp [mon, mdy, hl]; omega)
theorem civ_is {n : Int} (h : vdB n = true) : IsCiv n (civY n) (civM n) (civD n) := by
 obtain ⟨h0, h1⟩ := vdB_iff.1 h
 obtain ⟨a, b, c, d⟩ := civY_bd h0 h1
 have s := nyr_succ (civY n) a
 have r0 : 0 ≤ civR n := by unfold civR; omega
 have r1 : civR n < 365 + lpI (civY n) := by unfold civR; omega
 obtain ⟨⟨m0, m1⟩, k0, k1⟩ := monOf_is (civY n) rfl r0 r1
 have em : civM n = monOf (lpI (civY n)) (civR n) := rfl
 rw [← em] at m0 m1 k0 k1
 have ed : civD n = civR n - mon (civY n) (civM n) + 1 := rfl
 have er : civR n = n - nyr (civY n) := rfl
 refine ⟨a, b, m0, m1, by omega, by omega, ?_⟩
 unfold dno
 omega
theorem civ_eq {n y m d : Int} (h : IsCiv n y m d) : civY n = y ∧ civM n = m ∧ civD n = d :=
 (civ_is (vdB_iff.2 h.bd)).uniq h
open Go.RowKit
theorem rvd_any (n : Int) (w : World) : Calls Try.prog 21 #[.int .i64 n] w fun e w' => e = .returned (.bool (vdB n)) ∧ w = w' := by
 unfold vdB
 by_cases h1 : (-25567 : Int) ≤ n
 ·rw [decide_eq_true h1]
  go_enter Try.func21, Try.ntmps21
  go_wp2
  go_ret
  exact ⟨rfl, rfl⟩
 ·rw [decide_eq_false h1]
  have h3 : decide ((-25567 : Int) ≤ n) = false := decide_eq_false h1
  clear h1
  go_enter Try.func21, Try.ntmps21
  go_wp2
  go_ret
  exact ⟨rfl, rfl⟩
section
variable {k : IntKind} {t : TypeId} {w w' : World} {b o g B : Nat} {L : List Nat}
end
section
variable {k : IntKind} {t : TypeId} {w w' : World} {g B B' c : Nat} {A : Option Addr} {L : List Nat}
end
theorem dret_bool {a b : Bool} (h : a = b) : Ending.returned (.bool a) = .returned (.bool b) := by rw [h]
open Go.RowKit
theorem civ_no (n : Int) (w : World) (h : vdB n = false) : Calls Try.prog 16 #[.int .i64 n] w fun e w' => e = .returned (.tuple #[.int .i64 0, .int .i64 0, .int .i64 0, .int .i64 2]) ∧ w = w' := by
 have hv := fun w => vd_any n w
 rw [h] at hv
 have HV := Lib.hid hv
 clear hv h
 go_enter Try.func16, Try.ntmps16
 go_wp2_with (go_at_call 18; refine (HV.out _).mono ?_; rintro e w' ⟨rfl, rfl⟩)
 exact bodyPost_ret (v := .tuple #[.int .i64 0, .int .i64 0, .int .i64 0, .int .i64 2]) (by simp [results, Try.results16, go_sem]) rfl ⟨rfl, rfl⟩
theorem civ_loop {n y m d : Int} (h : IsCiv n y m d) {b : Int} (b0 : 1 ≤ b) (b1 : b ≤ m) : (b < m → mdy y b < n - nyr y - mon y b + 1) ∧ (b = m → ¬ mdy y b < n - nyr y - mon y b + 1) := by
 obtain ⟨y0, y1, m0, m1, d0, d1, rfl⟩ := h
 unfold dno
 constructor
 ·intro hlt
  have h1 := mon_succ y b b0 (by omega)
  have h2 := mon_mono (y := y) (m := b + 1) (n := m) (by omega) (by omega) (by omega)
  omega
 ·rintro rfl
  omega
theorem civ_yes (n y m d : Int) (w : World) (h : IsCiv n y m d) : Calls Try.prog 16 #[.int .i64 n] w fun e w' => e = .returned (.tuple #[.int .i64 y, .int .i64 m, .int .i64 d, .int .i64 0]) ∧ Below w.heap.size w w' := by
 have hv := fun w => vd_any n w
 have hv1 := vdB_iff.2 h.bd
 rw [hv1] at hv
 have HV := Lib.hid hv
 obtain ⟨n0, n1⟩ := h.bd
 obtain ⟨c0, c1, c2, c3⟩ := civY_bd n0 n1
 have hY := (civ_eq h).1
 have HC := Lib.hid h
 have hd : n - nyr y - mon y m + 1 = d := by have := h.eq; unfold dno at this; omega
 obtain ⟨y0, y1, m0, m1, d0, d1, -⟩ := h
 have hB := Below.refl w.heap.size w
 have e0 : civY0 n = 1900 + (n + 25567) / 365 := rfl
 have k0 : 1900 ≤ civY0 n := by omega
 have k1 : civY0 n ≤ 2200 := by omega
 have e1 : civY n = if n < nyr (civY0 n) then civY0 n - 1 else civY0 n := rfl
 clear hv hv1
 by_cases hg : n < nyr (civY0 n)
 ·rw [if_pos hg] at e1
  have e2 : civY0 n - 1 = y := by omega
  rw [e0] at hg e2 k0 k1
  have k2 : -25567 ≤ nyr (1900 + (n + 25567) / 365) ∧ nyr (1900 + (n + 25567) / 365) ≤ 84006 := nyr_bd k0 (by omega)
  have k3 : 1900 ≤ 1900 + (n + 25567) / 365 - 1 := by omega
  have k4 : -25567 ≤ nyr (1900 + (n + 25567) / 365 - 1) ∧ nyr (1900 + (n + 25567) / 365 - 1) ≤ 84006 := nyr_bd k3 (by omega)
  have E2 := Lib.hid e2
  have HD := Lib.hid hd
  clear e0 e1 e2 hY hd
  go_enter Try.func16, Try.ntmps16
  go_wp2_with (first | (go_at_call 18; refine (HV.out _).mono ?_; rintro e w' ⟨rfl, rfl⟩) | (go_at_call 28; refine (newYear_any _ _ (by omega) (by omega)).mono ?_; rintro e w' ⟨rfl, rfl⟩))
  rw [E2.out]
  go_loopw [3, 4] (fun v1 v2 w1 => ∃ b : Int, 1 ≤ b ∧ b ≤ m ∧ v1 = .int .i64 b ∧ v2 = .int .i64 (n - nyr y - mon y b + 1) ∧ Below w.heap.size w w1) (fun v1 v2 w1 => (m - intOf v1).toNat)
  case atStart => exact ⟨1, by omega, by omega, rfl, by rw [mon_1]; go_num, hB⟩
  case round =>
   obtain ⟨b, b0, b1, rfl, rfl, hB1⟩ := hrel
   have hm := mon_bd (y := y) (m := b) (by omega) (by omega)
   have hlp := lpI_01 y
   have hnb := nyr_bd (y := y) (by omega) (by omega)
   have hL := civ_loop HC.out b0 b1
   have hb0 := mdy_bd y b
   have hi : inYM y b = true := inYM_iff.2 ⟨by omega, by omega, by omega, by omega⟩
   have hy := fun w => days_any y b w
   rw [dys_in hi] at hy
   have HY := Lib.hid hy
   clear hy hi
   by_cases hlt : b < m
   ·have hs := mon_succ y b (by omega) (by omega)
    have hL2 := hL.1 hlt
    have HS := Lib.hid hs
    clear hs hL
    go_wp2_with (go_at_call 14; refine (HY.out _).mono ?_; rintro e w' ⟨rfl, hb⟩; replace hB1 := below_more hB1 hb; clear hb)
    go_roundw
    case rel => exact ⟨b + 1, by omega, by omega, rfl, by rw [HS.out]; go_num, hB1⟩
    case measure => simp [intOf]; omega
   ·obtain rfl : b = m := by omega
    have hL2 := hL.2 rfl
    clear hL hlt
    go_wp2_with (go_at_call 14; refine (HY.out _).mono ?_; rintro e w' ⟨rfl, hb⟩; replace hB1 := below_more hB1 hb; clear hb)
    exact bodyPost_ret (v := .tuple #[.int .i64 y, .int .i64 b, .int .i64 (n - nyr y - mon y b + 1), .int .i64 0]) (by simp [results, Try.results16, go_sem]) rfl ⟨by rw [HD.out], hB1⟩
 ·rw [if_neg hg] at e1
  have e2 : civY0 n = y := by omega
  rw [e0] at hg e2 k0 k1
  have k2 : -25567 ≤ nyr (1900 + (n + 25567) / 365) ∧ nyr (1900 + (n + 25567) / 365) ≤ 84006 := nyr_bd k0 (by omega)
  have E2 := Lib.hid e2
  have HD := Lib.hid hd
  clear e0 e1 e2 hY hd
  go_enter Try.func16, Try.ntmps16
  go_wp2_with (first | (go_at_call 18; refine (HV.out _).mono ?_; rintro e w' ⟨rfl, rfl⟩) | (go_at_call 28; refine (newYear_any _ _ (by omega) (by omega)).mono ?_; rintro e w' ⟨rfl, rfl⟩))
  rw [E2.out]
  go_loopw [3, 4] (fun v1 v2 w1 => ∃ b : Int, 1 ≤ b ∧ b ≤ m ∧ v1 = .int .i64 b ∧ v2 = .int .i64 (n - nyr y - mon y b + 1) ∧ Below w.heap.size w w1) (fun v1 v2 w1 => (m - intOf v1).toNat)
  case atStart => exact ⟨1, by omega, by omega, rfl, by rw [mon_1]; go_num, hB⟩
  case round =>
   obtain ⟨b, b0, b1, rfl, rfl, hB1⟩ := hrel
   have hm := mon_bd (y := y) (m := b) (by omega) (by omega)
   have hlp := lpI_01 y
   have hnb := nyr_bd (y := y) (by omega) (by omega)
   have hL := civ_loop HC.out b0 b1
   have hb0 := mdy_bd y b
   have hi : inYM y b = true := inYM_iff.2 ⟨by omega, by omega, by omega, by omega⟩
   have hy := fun w => days_any y b w
   rw [dys_in hi] at hy
   have HY := Lib.hid hy
   clear hy hi
   by_cases hlt : b < m
   ·have hs := mon_succ y b (by omega) (by omega)
    have hL2 := hL.1 hlt
    have HS := Lib.hid hs
    clear hs hL
    go_wp2_with (go_at_call 14; refine (HY.out _).mono ?_; rintro e w' ⟨rfl, hb⟩; replace hB1 := below_more hB1 hb; clear hb)
    go_roundw
    case rel => exact ⟨b + 1, by omega, by omega, rfl, by rw [HS.out]; go_num, hB1⟩
    case measure => simp [intOf]; omega
   ·obtain rfl : b = m := by omega
    have hL2 := hL.2 rfl
    clear hL hlt
    go_wp2_with (go_at_call 14; refine (HY.out _).mono ?_; rintro e w' ⟨rfl, hb⟩; replace hB1 := below_more hB1 hb; clear hb)
    exact bodyPost_ret (v := .tuple #[.int .i64 y, .int .i64 b, .int .i64 (n - nyr y - mon y b + 1), .int .i64 0]) (by simp [results, Try.results16, go_sem]) rfl ⟨by rw [HD.out], hB1⟩
theorem civ_any (n : Int) (w : World) (h : vdB n = true) : Calls Try.prog 16 #[.int .i64 n] w fun e w' => e = .returned (.tuple #[.int .i64 (civY n), .int .i64 (civM n), .int .i64 (civD n), .int .i64 0]) ∧ Below w.heap.size w w' := civ_yes n _ _ _ w (civ_is h)

/- The day after a date. -/
theorem next_in {n y m d : Int} (h : IsCiv n y m d) (hd : d + 1 ≤ mdy y m) : IsCiv (n + 1) y m (d + 1) := ⟨h.y0, h.y1, h.m0, h.m1, by have := h.d0; omega, hd, by have := h.eq; unfold dno at *; omega⟩
theorem next_mon {n y m d : Int} (h : IsCiv n y m d) (hd : ¬ d + 1 ≤ mdy y m) (hm : m < 12) : IsCiv (n + 1) y (m + 1) 1 :=
 ⟨h.y0, h.y1, by have := h.m0; omega, by omega, by omega, by have := mdy_bd y (m + 1); omega, by
  have h1 := h.eq
  have h2 := h.d1
  have h3 := mon_succ y m h.m0 h.m1
  unfold dno at *
  omega⟩
theorem next_yr {n y m d : Int} (h : IsCiv n y m d) (hd : ¬ d + 1 ≤ mdy y m) (hm : ¬ m < 12) (hn : n < 84005) : IsCiv (n + 1) (y + 1) 1 1 := by
 have h1 := h.eq
 have h2 := h.d1
 have h3 := mon_succ y m h.m0 h.m1
 have h4 := nyr_succ y h.y0
 have hm2 : m = 12 := by have := h.m1; omega
 subst hm2
 have h5 : mon y (12 + 1) = 365 + lpI y := mon_13 y
 have hy : y + 1 ≤ 2199 := by
  rcases Int.lt_or_le y 2199 with hc | hc
  ·omega
  ·have hy2 : y = 2199 := by have := h.y1; omega
   subst hy2
   have h6 : nyr (2199 + 1) = 84006 := nyr_2200
   unfold dno at h1
   omega
 refine ⟨by have := h.y0; omega, hy, by omega, by omega, by omega, by have := mdy_bd (y + 1) 1; omega, ?_⟩
 unfold dno at *
 rw [mon_1]
 omega
theorem wk_is {n : Int} (h : vdB n = true) : wkN n = (n + 25567) % 7 ∧ wkE n = 0 := by
 unfold wkN wkE
 rw [h]
 exact ⟨rfl, rfl⟩
theorem law_dnext (n : Int) (w : World) : Calls Try.prog 7 #[.int .i64 n] w fun e w' => e = .returned (.bool true) ∧ Below w.heap.size w w' := by
 have hB := Below.refl w.heap.size w
 have hv := fun w => rvd_any n w
 cases h : vdB n
 ·rw [h] at hv
  have HV := Lib.hid hv
  clear hv h
  go_enter Try.func7, Try.ntmps7
  go_wp2_with (first | (go_at_call 11; refine (dtawake_any _).mono ?_; rintro e w' ⟨rfl, hb⟩; replace hB := below_more hB hb; clear hb) | (go_at_call 21; refine (HV.out _).mono ?_; rintro e w' ⟨rfl, rfl⟩))
  go_ret
  exact ⟨rfl, hB⟩
 ·rw [h] at hv
  have HV := Lib.hid hv
  by_cases hn : n = 84005
  ·have hn' : (n == 84005) = true := by simpa using hn
   clear hv h hn
   go_enter Try.func7, Try.ntmps7
   go_wp2_with (first | (go_at_call 11; refine (dtawake_any _).mono ?_; rintro e w' ⟨rfl, hb⟩; replace hB := below_more hB hb; clear hb) | (go_at_call 21; refine (HV.out _).mono ?_; rintro e w' ⟨rfl, rfl⟩))
   go_ret
   exact ⟨rfl, hB⟩
  ·have hn' : (n == 84005) = false := by simpa using hn
   have hc := civ_is h
   obtain ⟨n0, n1⟩ := vdB_iff.1 h
   have hn2 : n < 84005 := by omega
   have h1 := fun w => civ_any n w h
   obtain ⟨w1, w2⟩ := wk_is h
   have hv2 : vdB (n + 1) = true := vdB_iff.2 ⟨by omega, by omega⟩
   obtain ⟨w3, w4⟩ := wk_is hv2
   have h4 := fun w => wk_any n w
   have h5 := fun w => wk_any (n + 1) w
   rw [w1, w2] at h4
   rw [w3, w4] at h5
   generalize civY n = y at *
   generalize civM n = m at *
   generalize civD n = d at *
   have hyb : 1900 ≤ y ∧ y ≤ 2199 := ⟨hc.y0, hc.y1⟩
   have hmb : 1 ≤ m ∧ m ≤ 12 := ⟨hc.m0, hc.m1⟩
   have hdb : 1 ≤ d ∧ d ≤ 31 := ⟨hc.d0, by have := hc.d1; have := mdy_bd y m; omega⟩
   have hmd := mdy_bd y m
   have h6 := fun w => days_any y m w
   rw [dys_in (inYM_iff.2 ⟨hc.y0, hc.y1, hc.m0, hc.m1⟩)] at h6
   obtain ⟨y0, y1⟩ := hyb
   obtain ⟨m0, m1⟩ := hmb
   obtain ⟨d0, d1⟩ := hdb
   have b1 : 0 ≤ (n + 25567) % 7 ∧ (n + 25567) % 7 ≤ 6 := by omega
   have b2 : 0 ≤ (n + 1 + 25567) % 7 ∧ (n + 1 + 25567) % 7 ≤ 6 := by omega
   have H1 := Lib.hid h1
   have H4 := Lib.hid h4
   have H5 := Lib.hid h5
   have H6 := Lib.hid h6
   by_cases hd : d + 1 ≤ mdy y m
   ·have h7 := fun w => civ_yes (n + 1) _ _ _ w (next_in hc hd)
    have H7 := Lib.hid h7
    clear h1 h4 h5 h6 h7 h hn hc hv hv2 w1 w2 w3 w4
    go_enter Try.func7, Try.ntmps7
    go_wp2_with (first | (go_at_call 11; refine (dtawake_any _).mono ?_; rintro e w' ⟨rfl, hb⟩; replace hB := below_more hB hb; clear hb) | (go_at_call 21; refine (HV.out _).mono ?_; rintro e w' ⟨rfl, rfl⟩) | (go_at_call 16; first | ((with_reducible refine (H1.out _).mono ?_); rintro e w' ⟨rfl, hb⟩; replace hB := below_more hB hb; clear hb) | ((with_reducible refine (H7.out _).mono ?_); rintro e w' ⟨rfl, hb⟩; replace hB := below_more hB hb; clear hb)) | (go_at_call 14; refine (H6.out _).mono ?_; rintro e w' ⟨rfl, hb⟩; replace hB := below_more hB hb; clear hb) | (go_at_call 24; first | ((with_reducible refine (H4.out _).mono ?_); rintro e w' ⟨rfl, rfl⟩) | ((with_reducible refine (H5.out _).mono ?_); rintro e w' ⟨rfl, rfl⟩)))
    go_ret
    exact ⟨dret_bool (by simp; omega), hB⟩
   ·have hd2 : mdy y m < d + 1 := by omega
    by_cases hm : m < 12
    ·have h7 := fun w => civ_yes (n + 1) _ _ _ w (next_mon hc hd hm)
     have H7 := Lib.hid h7
     clear hd h1 h4 h5 h6 h7 h hn hc hv hv2 w1 w2 w3 w4
     go_enter Try.func7, Try.ntmps7
     go_wp2_with (first | (go_at_call 11; refine (dtawake_any _).mono ?_; rintro e w' ⟨rfl, hb⟩; replace hB := below_more hB hb; clear hb) | (go_at_call 21; refine (HV.out _).mono ?_; rintro e w' ⟨rfl, rfl⟩) | (go_at_call 16; first | ((with_reducible refine (H1.out _).mono ?_); rintro e w' ⟨rfl, hb⟩; replace hB := below_more hB hb; clear hb) | ((with_reducible refine (H7.out _).mono ?_); rintro e w' ⟨rfl, hb⟩; replace hB := below_more hB hb; clear hb)) | (go_at_call 14; refine (H6.out _).mono ?_; rintro e w' ⟨rfl, hb⟩; replace hB := below_more hB hb; clear hb) | (go_at_call 24; first | ((with_reducible refine (H4.out _).mono ?_); rintro e w' ⟨rfl, rfl⟩) | ((with_reducible refine (H5.out _).mono ?_); rintro e w' ⟨rfl, rfl⟩)))
     go_ret
     exact ⟨dret_bool (by simp; omega), hB⟩
    ·have h7 := fun w => civ_yes (n + 1) _ _ _ w (next_yr hc hd hm hn2)
     have H7 := Lib.hid h7
     clear hd h1 h4 h5 h6 h7 h hn hc hv hv2 w1 w2 w3 w4
     go_enter Try.func7, Try.ntmps7
     go_wp2_with (first | (go_at_call 11; refine (dtawake_any _).mono ?_; rintro e w' ⟨rfl, hb⟩; replace hB := below_more hB hb; clear hb) | (go_at_call 21; refine (HV.out _).mono ?_; rintro e w' ⟨rfl, rfl⟩) | (go_at_call 16; first | ((with_reducible refine (H1.out _).mono ?_); rintro e w' ⟨rfl, hb⟩; replace hB := below_more hB hb; clear hb) | ((with_reducible refine (H7.out _).mono ?_); rintro e w' ⟨rfl, hb⟩; replace hB := below_more hB hb; clear hb)) | (go_at_call 14; refine (H6.out _).mono ?_; rintro e w' ⟨rfl, hb⟩; replace hB := below_more hB hb; clear hb) | (go_at_call 24; first | ((with_reducible refine (H4.out _).mono ?_); rintro e w' ⟨rfl, rfl⟩) | ((with_reducible refine (H5.out _).mono ?_); rintro e w' ⟨rfl, rfl⟩)))
     go_ret
     exact ⟨dret_bool (by simp; omega), hB⟩
end Go.Proofs.Yteejefeociclbaa
