/- Contracts and the law of DateOf, part 1: what was proved of each, callees first. -/
import Derived.WalkKit
import Derived.WalkSpells
import Derived.Lib.Hide
import Derived.Deep.QuietTactic
import Derived.BigQuiet
import Derived.LoopTactic
import Derived.Laws.Cells
import Derived.Below
import Derived.Test.YteejefeociclbaaDK1
namespace Go.Proofs.Yteejefeociclbaa
open Go.RowKit
theorem rleap_any (y : Int) (w : World) (h0 : 0 ≤ y) : Calls Try.prog 29 #[.int .i64 y] w fun e w' => e = .returned (.bool (lpB y)) ∧ w = w' := by
 rw [lpB_eq]
 cases h1 : (y % 4 == 0)
 ·go_enter Try.func29, Try.ntmps29
  go_wp2
  go_ret
  exact ⟨rfl, rfl⟩
 ·cases h2 : (y % 100 == 0)
  ·have h2' : (y % 100 != 0) = true := by rw [bne, h2]; rfl
   rw [h2']
   go_enter Try.func29, Try.ntmps29
   go_wp2
   go_ret
   exact ⟨rfl, rfl⟩
  ·have h2' : (y % 100 != 0) = false := by rw [bne, h2]; rfl
   rw [h2']
   go_enter Try.func29, Try.ntmps29
   go_wp2
   go_ret
   exact ⟨by simp, rfl⟩
def mlens : Array Value := #[.int .i64 31, .int .i64 28, .int .i64 31, .int .i64 30, .int .i64 31, .int .i64 30, .int .i64 31, .int .i64 31, .int .i64 30, .int .i64 31, .int .i64 30, .int .i64 31]
theorem run_index_arr {P : Program} (t e : TypeId) (n : Nat) (cs : Array Value) (k : IntKind) (i : Nat) (v : Value) (w : World) (h : P.underlying t = some (.array n e)) (hi : i < n) (hv : cs[i]? = some v)
  (hs : ∀ w, (sizeOf e).run P w = .ok 1 w) (ha : ∀ w, (isAgg e).run P w = .ok false w) :
  (Instr.index t (.agg cs) (.int k i)).run P w = .ok v w := by
 simp [Instr.index, run_underlying h, asIntOf, hv, hi, hs, ha, go_sem]
theorem size_int (w : World) : (sizeOf 3).run Try.prog w = .ok 1 w := by
 have h : Try.t3.size = 1 := by kernel_rfl
 simp [sizeOf, h, go_sem]
theorem agg_int (w : World) : (isAgg 3).run Try.prog w = .ok false w := by
 simp [isAgg, run_underlying Try.underlying3, go_sem]
theorem rdays_out (y m : Int) (w : World) (h : inYM y m = false) : Calls Try.prog 15 #[.int .i64 y, .int .i64 m] w fun e w' => e = .returned (.int .i64 0) ∧ w = w' := by
 have hx : m < 1 ∨ ¬ m < 1 ∧ 12 < m ∨ ¬ m < 1 ∧ ¬ 12 < m ∧ y < 1900 ∨ ¬ m < 1 ∧ ¬ 12 < m ∧ ¬ y < 1900 ∧ 2199 < y := by
  have h2 : ¬ (1900 ≤ y ∧ y ≤ 2199 ∧ 1 ≤ m ∧ m ≤ 12) := fun e => by rw [inYM_iff.2 e] at h; cases h
  omega
 clear h
 rcases hx with h1 | ⟨h0, h1⟩ | ⟨h0, h1, h2⟩ | ⟨h0, h1, h2, h3⟩
 all_goals
  go_enter Try.func15, Try.ntmps15
  go_wp2
  go_ret
  exact ⟨rfl, rfl⟩
theorem rdays_two (y : Int) (w : World) (h0 : 1900 ≤ y) (h1 : y ≤ 2199) : Calls Try.prog 15 #[.int .i64 y, .int .i64 2] w fun e w' => e = .returned (.int .i64 (28 + lpI y)) ∧ w = w' := by
 have hi := fun w => rleap_any y w (by omega)
 unfold lpI
 cases hl : lpB y
 all_goals
  rw [hl] at hi
  have HI := Lib.hid hi
  clear hi hl
  have hx : ∀ W : World, (Instr.index 40 (.agg #[.int .i64 31, .int .i64 28, .int .i64 31, .int .i64 30, .int .i64 31, .int .i64 30, .int .i64 31, .int .i64 31, .int .i64 30, .int .i64 31, .int .i64 30, .int .i64 31]) (.int .i64 1)).run Try.prog W = .ok (.int .i64 28) W := fun W => run_index_arr (P := Try.prog) 40 3 12 mlens .i64 1 (.int .i64 28) W Try.underlying40 (by omega) rfl size_int agg_int
  go_enter Try.func15, Try.ntmps15
  go_wp2_with (go_at_call 29; refine (HI.out _).mono ?_; rintro e w' ⟨rfl, rfl⟩)
  go_ret
  exact ⟨rfl, rfl⟩
theorem rdays_1 (y : Int) (w : World) (h0 : 1900 ≤ y) (h1 : y ≤ 2199) : Calls Try.prog 15 #[.int .i64 y, .int .i64 1] w fun e w' => e = .returned (.int .i64 31) ∧ w = w' := by
 have hx : ∀ W : World, (Instr.index 40 (.agg #[.int .i64 31, .int .i64 28, .int .i64 31, .int .i64 30, .int .i64 31, .int .i64 30, .int .i64 31, .int .i64 31, .int .i64 30, .int .i64 31, .int .i64 30, .int .i64 31]) (.int .i64 0)).run Try.prog W = .ok (.int .i64 31) W := fun W => run_index_arr (P := Try.prog) 40 3 12 mlens .i64 0 (.int .i64 31) W Try.underlying40 (by omega) rfl size_int agg_int
 go_enter Try.func15, Try.ntmps15
 go_wp2
 go_ret
 exact ⟨rfl, rfl⟩
theorem rdays_3 (y : Int) (w : World) (h0 : 1900 ≤ y) (h1 : y ≤ 2199) : Calls Try.prog 15 #[.int .i64 y, .int .i64 3] w fun e w' => e = .returned (.int .i64 31) ∧ w = w' := by
 have hx : ∀ W : World, (Instr.index 40 (.agg #[.int .i64 31, .int .i64 28, .int .i64 31, .int .i64 30, .int .i64 31, .int .i64 30, .int .i64 31, .int .i64 31, .int .i64 30, .int .i64 31, .int .i64 30, .int .i64 31]) (.int .i64 2)).run Try.prog W = .ok (.int .i64 31) W := fun W => run_index_arr (P := Try.prog) 40 3 12 mlens .i64 2 (.int .i64 31) W Try.underlying40 (by omega) rfl size_int agg_int
 go_enter Try.func15, Try.ntmps15
 go_wp2
 go_ret
 exact ⟨rfl, rfl⟩
theorem rdays_4 (y : Int) (w : World) (h0 : 1900 ≤ y) (h1 : y ≤ 2199) : Calls Try.prog 15 #[.int .i64 y, .int .i64 4] w fun e w' => e = .returned (.int .i64 30) ∧ w = w' := by
 have hx : ∀ W : World, (Instr.index 40 (.agg #[.int .i64 31, .int .i64 28, .int .i64 31, .int .i64 30, .int .i64 31, .int .i64 30, .int .i64 31, .int .i64 31, .int .i64 30, .int .i64 31, .int .i64 30, .int .i64 31]) (.int .i64 3)).run Try.prog W = .ok (.int .i64 30) W := fun W => run_index_arr (P := Try.prog) 40 3 12 mlens .i64 3 (.int .i64 30) W Try.underlying40 (by omega) rfl size_int agg_int
 go_enter Try.func15, Try.ntmps15
 go_wp2
 go_ret
 exact ⟨rfl, rfl⟩
theorem rdays_5 (y : Int) (w : World) (h0 : 1900 ≤ y) (h1 : y ≤ 2199) : Calls Try.prog 15 #[.int .i64 y, .int .i64 5] w fun e w' => e = .returned (.int .i64 31) ∧ w = w' := by
 have hx : ∀ W : World, (Instr.index 40 (.agg #[.int .i64 31, .int .i64 28, .int .i64 31, .int .i64 30, .int .i64 31, .int .i64 30, .int .i64 31, .int .i64 31, .int .i64 30, .int .i64 31, .int .i64 30, .int .i64 31]) (.int .i64 4)).run Try.prog W = .ok (.int .i64 31) W := fun W => run_index_arr (P := Try.prog) 40 3 12 mlens .i64 4 (.int .i64 31) W Try.underlying40 (by omega) rfl size_int agg_int
 go_enter Try.func15, Try.ntmps15
 go_wp2
 go_ret
 exact ⟨rfl, rfl⟩
theorem rdays_6 (y : Int) (w : World) (h0 : 1900 ≤ y) (h1 : y ≤ 2199) : Calls Try.prog 15 #[.int .i64 y, .int .i64 6] w fun e w' => e = .returned (.int .i64 30) ∧ w = w' := by
 have hx : ∀ W : World, (Instr.index 40 (.agg #[.int .i64 31, .int .i64 28, .int .i64 31, .int .i64 30, .int .i64 31, .int .i64 30, .int .i64 31, .int .i64 31, .int .i64 30, .int .i64 31, .int .i64 30, .int .i64 31]) (.int .i64 5)).run Try.prog W = .ok (.int .i64 30) W := fun W => run_index_arr (P := Try.prog) 40 3 12 mlens .i64 5 (.int .i64 30) W Try.underlying40 (by omega) rfl size_int agg_int
 go_enter Try.func15, Try.ntmps15
 go_wp2
 go_ret
 exact ⟨rfl, rfl⟩
theorem rdays_7 (y : Int) (w : World) (h0 : 1900 ≤ y) (h1 : y ≤ 2199) : Calls Try.prog 15 #[.int .i64 y, .int .i64 7] w fun e w' => e = .returned (.int .i64 31) ∧ w = w' := by
 have hx : ∀ W : World, (Instr.index 40 (.agg #[.int .i64 31, .int .i64 28, .int .i64 31, .int .i64 30, .int .i64 31, .int .i64 30, .int .i64 31, .int .i64 31, .int .i64 30, .int .i64 31, .int .i64 30, .int .i64 31]) (.int .i64 6)).run Try.prog W = .ok (.int .i64 31) W := fun W => run_index_arr (P := Try.prog) 40 3 12 mlens .i64 6 (.int .i64 31) W Try.underlying40 (by omega) rfl size_int agg_int
 go_enter Try.func15, Try.ntmps15
 go_wp2
 go_ret
 exact ⟨rfl, rfl⟩
theorem rdays_8 (y : Int) (w : World) (h0 : 1900 ≤ y) (h1 : y ≤ 2199) : Calls Try.prog 15 #[.int .i64 y, .int .i64 8] w fun e w' => e = .returned (.int .i64 31) ∧ w = w' := by
 have hx : ∀ W : World, (Instr.index 40 (.agg #[.int .i64 31, .int .i64 28, .int .i64 31, .int .i64 30, .int .i64 31, .int .i64 30, .int .i64 31, .int .i64 31, .int .i64 30, .int .i64 31, .int .i64 30, .int .i64 31]) (.int .i64 7)).run Try.prog W = .ok (.int .i64 31) W := fun W => run_index_arr (P := Try.prog) 40 3 12 mlens .i64 7 (.int .i64 31) W Try.underlying40 (by omega) rfl size_int agg_int
 go_enter Try.func15, Try.ntmps15
 go_wp2
 go_ret
 exact ⟨rfl, rfl⟩
theorem rdays_9 (y : Int) (w : World) (h0 : 1900 ≤ y) (h1 : y ≤ 2199) : Calls Try.prog 15 #[.int .i64 y, .int .i64 9] w fun e w' => e = .returned (.int .i64 30) ∧ w = w' := by
 have hx : ∀ W : World, (Instr.index 40 (.agg #[.int .i64 31, .int .i64 28, .int .i64 31, .int .i64 30, .int .i64 31, .int .i64 30, .int .i64 31, .int .i64 31, .int .i64 30, .int .i64 31, .int .i64 30, .int .i64 31]) (.int .i64 8)).run Try.prog W = .ok (.int .i64 30) W := fun W => run_index_arr (P := Try.prog) 40 3 12 mlens .i64 8 (.int .i64 30) W Try.underlying40 (by omega) rfl size_int agg_int
 go_enter Try.func15, Try.ntmps15
 go_wp2
 go_ret
 exact ⟨rfl, rfl⟩
theorem rdays_10 (y : Int) (w : World) (h0 : 1900 ≤ y) (h1 : y ≤ 2199) : Calls Try.prog 15 #[.int .i64 y, .int .i64 10] w fun e w' => e = .returned (.int .i64 31) ∧ w = w' := by
 have hx : ∀ W : World, (Instr.index 40 (.agg #[.int .i64 31, .int .i64 28, .int .i64 31, .int .i64 30, .int .i64 31, .int .i64 30, .int .i64 31, .int .i64 31, .int .i64 30, .int .i64 31, .int .i64 30, .int .i64 31]) (.int .i64 9)).run Try.prog W = .ok (.int .i64 31) W := fun W => run_index_arr (P := Try.prog) 40 3 12 mlens .i64 9 (.int .i64 31) W Try.underlying40 (by omega) rfl size_int agg_int
 go_enter Try.func15, Try.ntmps15
 go_wp2
 go_ret
 exact ⟨rfl, rfl⟩
theorem rdays_11 (y : Int) (w : World) (h0 : 1900 ≤ y) (h1 : y ≤ 2199) : Calls Try.prog 15 #[.int .i64 y, .int .i64 11] w fun e w' => e = .returned (.int .i64 30) ∧ w = w' := by
 have hx : ∀ W : World, (Instr.index 40 (.agg #[.int .i64 31, .int .i64 28, .int .i64 31, .int .i64 30, .int .i64 31, .int .i64 30, .int .i64 31, .int .i64 31, .int .i64 30, .int .i64 31, .int .i64 30, .int .i64 31]) (.int .i64 10)).run Try.prog W = .ok (.int .i64 30) W := fun W => run_index_arr (P := Try.prog) 40 3 12 mlens .i64 10 (.int .i64 30) W Try.underlying40 (by omega) rfl size_int agg_int
 go_enter Try.func15, Try.ntmps15
 go_wp2
 go_ret
 exact ⟨rfl, rfl⟩
theorem rdays_12 (y : Int) (w : World) (h0 : 1900 ≤ y) (h1 : y ≤ 2199) : Calls Try.prog 15 #[.int .i64 y, .int .i64 12] w fun e w' => e = .returned (.int .i64 31) ∧ w = w' := by
 have hx : ∀ W : World, (Instr.index 40 (.agg #[.int .i64 31, .int .i64 28, .int .i64 31, .int .i64 30, .int .i64 31, .int .i64 30, .int .i64 31, .int .i64 31, .int .i64 30, .int .i64 31, .int .i64 30, .int .i64 31]) (.int .i64 11)).run Try.prog W = .ok (.int .i64 31) W := fun W => run_index_arr (P := Try.prog) 40 3 12 mlens .i64 11 (.int .i64 31) W Try.underlying40 (by omega) rfl size_int agg_int
 go_enter Try.func15, Try.ntmps15
 go_wp2
 go_ret
 exact ⟨rfl, rfl⟩
theorem rdays_any (y m : Int) (w : World) : Calls Try.prog 15 #[.int .i64 y, .int .i64 m] w fun e w' => e = .returned (.int .i64 (dys y m)) ∧ w = w' := by
 cases h : inYM y m
 ·rw [dys_out h]; exact rdays_out y m w h
 ·rw [dys_in h]
  obtain ⟨a, b, c, d⟩ := inYM_iff.1 h
  clear h
  rcases twelve c d with rfl | rfl | rfl | rfl | rfl | rfl | rfl | rfl | rfl | rfl | rfl | rfl
  ·exact rdays_1 y w a b
  ·exact rdays_two y w a b
  ·exact rdays_3 y w a b
  ·exact rdays_4 y w a b
  ·exact rdays_5 y w a b
  ·exact rdays_6 y w a b
  ·exact rdays_7 y w a b
  ·exact rdays_8 y w a b
  ·exact rdays_9 y w a b
  ·exact rdays_10 y w a b
  ·exact rdays_11 y w a b
  ·exact rdays_12 y w a b

/- The tests of Of, as they show. -/
theorem rof_no (y m d : Int) (w : World) (h : dayB y m d = false) : Calls Try.prog 13 #[.int .i64 y, .int .i64 m, .int .i64 d] w fun e w' => e = .returned (.tuple #[.int .i64 0, .int .i64 2]) ∧ w = w' := by
 have hx := dayB_no h
 clear h
 rcases hx with h1 | ⟨h1, h2⟩
 ·go_enter Try.func13, Try.ntmps13
  go_wp2
  go_ret2
  exact ⟨rfl, rfl⟩
 ·go_enter Try.func13, Try.ntmps13
  go_wp2_with (go_at_call 15; refine (rdays_any _ _ _).mono ?_; rintro e w' ⟨rfl, rfl⟩)
  go_ret2
  exact ⟨rfl, rfl⟩
theorem rof_yes (y m d : Int) (w : World) (h : dayB y m d = true) : Calls Try.prog 13 #[.int .i64 y, .int .i64 m, .int .i64 d] w fun e w' => e = .returned (.tuple #[.int .i64 (dno y m d), .int .i64 0]) ∧ w = w' := by
 have hc := dayB_iff.1 h
 obtain ⟨h1, h2⟩ := dayB_yes h
 obtain ⟨y0, y1, m0, m1, d0, d1, -⟩ := hc
 clear h
 have hn := nyr_bd (y := y) (by omega) (by omega)
 have hd := mdy_bd y m
 go_enter Try.func13, Try.ntmps13
 go_wp2_with (go_at_call 15; refine (rdays_any _ _ _).mono ?_; rintro e w' ⟨rfl, rfl⟩)
 go_loop [8, 9] (fun v1 v2 => ∃ a : Int, 1900 ≤ a ∧ a ≤ y ∧ v2 = .int .i64 a ∧ v1 = .int .i64 (nyr a)) (fun v1 v2 => (y - intOf v2).toNat)
 case atStart => exact ⟨1900, by omega, by omega, rfl, rfl⟩
 case round =>
  obtain ⟨a, a0, a1, rfl, rfl⟩ := hrel
  have hb := nyr_bd (y := a) (by omega) (by omega)
  by_cases hlt : a < y
  ·have hs := nyr_succ a (by omega)
   have hi := fun w => rleap_any a w (by omega)
   unfold lpI at hs
   have HS := Lib.hid hs
   clear hs
   cases hl : lpB a
   all_goals
    rw [hl] at hi HS
    have HI := Lib.hid hi
    clear hi hl
    go_wp2_with (go_at_call 29; refine (HI.out _).mono ?_; rintro e w' ⟨rfl, rfl⟩)
    go_round
    case rel => exact ⟨a + 1, by omega, by omega, rfl, by first | (rw [HS.out]; done) | (rw [HS.out]; simp)⟩
    case measure => simp [intOf]; omega
  ·obtain rfl : a = y := by omega
   go_wp2
   go_loop [8, 10] (fun v1 v2 => ∃ b : Int, 1 ≤ b ∧ b ≤ m ∧ v2 = .int .i64 b ∧ v1 = .int .i64 (nyr a + mon a b)) (fun v1 v2 => (m - intOf v2).toNat)
   case atStart => exact ⟨1, by omega, by omega, rfl, by rw [mon_1]; go_num⟩
   case round =>
    obtain ⟨b, b0, b1, rfl, rfl⟩ := hrel
    have hm := mon_bd (y := a) (m := b) (by omega) (by omega)
    have hl := lpI_01 a
    by_cases hlt : b < m
    ·have hs := mon_succ a b (by omega) (by omega)
     have hb0 := mdy_bd a b
     have hi : inYM a b = true := inYM_iff.2 ⟨by omega, by omega, by omega, by omega⟩
     have hy := fun w => rdays_any a b w
     rw [dys_in hi] at hy
     have HY := Lib.hid hy
     have HS := Lib.hid hs
     clear hy hs hi
     go_wp2_with (go_at_call 15; refine (HY.out _).mono ?_; rintro e w' ⟨rfl, rfl⟩)
     go_round
     case rel => exact ⟨b + 1, by omega, by omega, rfl, by rw [HS.out]; go_num⟩
     case measure => simp [intOf]; omega
    ·obtain rfl : b = m := by omega
     go_wp2
     go_ret2
     exact ⟨by unfold dno; go_num, rfl⟩
theorem dtrof_any (y m d : Int) (w : World) : Calls Try.prog 13 #[.int .i64 y, .int .i64 m, .int .i64 d] w fun e w' => e = .returned (.tuple #[.int .i64 (ofN y m d), .int .i64 (ofE y m d)]) ∧ w = w' := by
 unfold ofN ofE
 cases h : dayB y m d
 ·exact rof_no y m d w h
 ·exact rof_yes y m d w h
theorem law_dof (y m d : Int) (w : World) : Calls Try.prog 3 #[.int .i64 y, .int .i64 m, .int .i64 d] w fun e w' => e = .returned (.bool true) ∧ Below w.heap.size w w' := by
 have hB := Below.refl w.heap.size w
 go_enter Try.func3, Try.ntmps3
 go_wp2_with (first | (go_at_call 11; refine (dtawake_any _).mono ?_; rintro e w' ⟨rfl, hb⟩; replace hB := below_more hB hb; clear hb) | (go_at_call 12; refine (dtof_any _ _ _ _).mono ?_; rintro e w' ⟨rfl, hb⟩; replace hB := below_more hB hb; clear hb) | (go_at_call 13; refine (dtrof_any _ _ _ _).mono ?_; rintro e w' ⟨rfl, rfl⟩) | (go_at_call 14; refine (days_any _ _ _).mono ?_; rintro e w' ⟨rfl, hb⟩; replace hB := below_more hB hb; clear hb) | (go_at_call 15; refine (rdays_any _ _ _).mono ?_; rintro e w' ⟨rfl, rfl⟩))
 go_ret
 exact ⟨rfl, hB⟩
end Go.Proofs.Yteejefeociclbaa
