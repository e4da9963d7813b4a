/- Contracts and the law of DecimalRescale, part 1: what was proved of each, callees first. -/
import Derived.LoopTactic
import Derived.Deep.QuietTactic
import Derived.BigQuiet
import Derived.Test.YtgihmikeapbpkabDoorB2
namespace Go.Proofs.YtgihmikeapbpkabDoor
open Go.RowKit
open AS (Keep NoInt)
theorem dret_int {k : IntKind} {a b : Int} (h : a = b) : Ending.returned (.int k a) = .returned (.int k b) := by rw [h]
theorem scaleB_is {m : Int} (h : scaleB m = true) : 0 ≤ m ∧ m ≤ 9 := by simpa [scaleB] using h
theorem known_any (a : Int) (w : World) : Calls Tryd.prog 25 #[.int .i64 a] w fun e w' => e = .returned (.bool (modeB a)) ∧ w = w' := by
 unfold modeB
 by_cases h1 : (0 : Int) ≤ a
 ·by_cases h2 : a ≤ 5
  ·rw [decide_eq_true h1, decide_eq_true h2]
   go_enter Tryd.func25, Tryd.ntmps25
   go_wp2
   go_ret
   exact ⟨rfl, rfl⟩
  ·rw [decide_eq_true h1, decide_eq_false h2]
   have h3 : decide (a ≤ 5) = false := decide_eq_false h2
   clear h2
   go_enter Tryd.func25, Tryd.ntmps25
   go_wp2
   go_ret
   exact ⟨rfl, rfl⟩
 ·rw [decide_eq_false h1]
  have h3 : decide ((0 : Int) ≤ a) = false := decide_eq_false h1
  clear h1
  go_enter Tryd.func25, Tryd.ntmps25
  go_wp2
  go_ret
  exact ⟨rfl, rfl⟩
theorem rvalid_any (n s : Int) (w : World) : Calls Tryd.prog 26 #[.int .i64 n, .int .i64 s] w fun e w' => e = .returned (.bool (validB n s)) ∧ w = w' := by
 unfold validB
 by_cases h1 : (-1000000000000000 : Int) ≤ n
 ·by_cases h2 : n ≤ 1000000000000000
  ·rw [decide_eq_true h1, decide_eq_true h2]
   unfold scaleB
   by_cases h4 : 0 ≤ s
   ·by_cases h5 : s ≤ 9
    ·rw [decide_eq_true h4, decide_eq_true h5]
     go_enter Tryd.func26, Tryd.ntmps26
     go_wp2
     go_ret
     exact ⟨rfl, rfl⟩
    ·rw [decide_eq_true h4, decide_eq_false h5]
     have h3 : decide (s ≤ 9) = false := decide_eq_false h5
     clear h5
     go_enter Tryd.func26, Tryd.ntmps26
     go_wp2
     go_ret
     exact ⟨rfl, rfl⟩
   ·rw [decide_eq_false h4]
    have h3 : decide (0 ≤ s) = false := decide_eq_false h4
    clear h4
    go_enter Tryd.func26, Tryd.ntmps26
    go_wp2
    go_ret
    exact ⟨rfl, rfl⟩
  ·rw [decide_eq_true h1, decide_eq_false h2]
   have h3 : decide (n ≤ 1000000000000000) = false := decide_eq_false h2
   clear h2
   go_enter Tryd.func26, Tryd.ntmps26
   go_wp2
   go_ret
   exact ⟨rfl, rfl⟩
 ·rw [decide_eq_false h1]
  have h3 : decide ((-1000000000000000 : Int) ≤ n) = false := decide_eq_false h1
  clear h1
  go_enter Tryd.func26, Tryd.ntmps26
  go_wp2
  go_ret
  exact ⟨rfl, rfl⟩
theorem size_any (a : Int) (w : World) (h1 : -9223372036854775807 ≤ a) (h2 : a ≤ 9223372036854775807) : Calls Tryd.prog 10 #[.int .i64 a] w fun e w' => e = .returned (.int .i64 (a.natAbs : Int)) ∧ w = w' := by
 by_cases h : a < 0
 ·rw [show (a.natAbs : Int) = -a by omega]
  go_enter Tryd.func10, Tryd.ntmps10
  go_wp2
  go_ret
  exact ⟨rfl, rfl⟩
 ·rw [show (a.natAbs : Int) = a by omega]
  go_enter Tryd.func10, Tryd.ntmps10
  go_wp2
  go_ret
  exact ⟨rfl, rfl⟩
def pw (k : Nat) : Int := ((10 ^ k : Nat) : Int)
theorem pw_succ (k : Nat) : pw (k + 1) = pw k * 10 := by unfold pw; rw [Nat.pow_succ]; omega
theorem pw_bd {k : Nat} (h : k ≤ 9) : 1 ≤ pw k ∧ pw k ≤ 1000000000 := by
 have h1 : 0 < 10 ^ k := Nat.pow_pos (by omega)
 have h2 : 10 ^ k ≤ 10 ^ 9 := Nat.pow_le_pow_right (by omega) h
 unfold pw; omega
set_option maxHeartbeats 800000 in
theorem power_any (k : Nat) (hk : k ≤ 9) (w : World) : Calls Tryd.prog 24 #[.int .i64 k] w fun e w' => e = .returned (.int .i64 (pw k)) ∧ w = w' := by
 go_enter Tryd.func24, Tryd.ntmps24
 go_wp2
 go_loop [3, 5] (fun p i => ∃ j : Nat, j ≤ k ∧ i = .int .i64 j ∧ p = .int .i64 (pw j)) (fun _ i => k - (intOf i).toNat)
 case atStart => exact ⟨0, Nat.zero_le _, rfl, rfl⟩
 case round =>
  obtain ⟨j, hj, rfl, rfl⟩ := hrel
  have hb := pw_bd (show j ≤ 9 by omega)
  obtain ⟨hb1, hb2⟩ := hb
  have hs := Lib.hid (pw_succ j)
  by_cases hlt : j < k
  ·go_wp2
   go_round
   case rel => exact ⟨j + 1, by omega, by go_num, by rw [hs.out]⟩
   case measure => simp [intOf]; omega
  ·obtain rfl : j = k := by omega
   have hkk : decide ((j : Int) < (j : Int)) = false := by simp
   go_wp2
   go_ret
   exact ⟨rfl, rfl⟩
set_option maxHeartbeats 800000 in
theorem rpower_any (k : Nat) (hk : k ≤ 9) (w : World) : Calls Tryd.prog 28 #[.int .i64 k] w fun e w' => e = .returned (.int .i64 (pw k)) ∧ w = w' := by
 go_enter Tryd.func28, Tryd.ntmps28
 go_wp2
 go_loop [3, 4] (fun p i => ∃ j : Nat, j ≤ k ∧ i = .int .i64 j ∧ p = .int .i64 (pw j)) (fun _ i => k - (intOf i).toNat)
 case atStart => exact ⟨0, Nat.zero_le _, rfl, rfl⟩
 case round =>
  obtain ⟨j, hj, rfl, rfl⟩ := hrel
  have hb := pw_bd (show j ≤ 9 by omega)
  obtain ⟨hb1, hb2⟩ := hb
  have hs := Lib.hid (pw_succ j)
  by_cases hlt : j < k
  ·go_wp2
   go_round
   case rel => exact ⟨j + 1, by omega, by go_num, by rw [hs.out]⟩
   case measure => simp [intOf]; omega
  ·obtain rfl : j = k := by omega
   have hkk : decide ((j : Int) < (j : Int)) = false := by simp
   go_wp2
   go_ret
   exact ⟨rfl, rfl⟩
theorem rnd_zero (m b : Int) (hm0 : 0 ≤ m) (hm1 : m ≤ 5) (hb : b ≠ 0) : rnd m 0 b = 0 := by
 have hc : m = 0 ∨ m = 1 ∨ m = 2 ∨ m = 3 ∨ m = 4 ∨ m = 5 := by omega
 have hd : (0 : Int) < (b.natAbs : Int) := by omega
 rcases hc with rfl | rfl | rfl | rfl | rfl | rfl <;> simp [rnd, rqN, upN, sgn] <;> omega
def rqFL (a b A B X R : Int) : List (Nat × AS.Fact) := [(21, AS.Fact.is (.int .i64 a)), (22, AS.Fact.is (.int .i64 A)), (23, AS.Fact.is (.int .i64 b)), (24, AS.Fact.is (.int .i64 B)), (25, AS.Fact.is (.int .i64 X)), (26, AS.Fact.is (.int .i64 a)), (27, AS.Fact.is (.int .i64 A)), (28, AS.Fact.is (.int .i64 b)), (29, AS.Fact.is (.int .i64 B)), (30, AS.Fact.is (.int .i64 R)), (31, AS.Fact.is (.int .i64 b)), (32, AS.Fact.is (.int .i64 B)), (8, AS.Fact.is (.int .i64 X)), (9, AS.Fact.is (.int .i64 R)), (10, AS.Fact.is (.int .i64 B))]
set_option maxRecDepth 20000 in
set_option maxHeartbeats 3200000 in
theorem rq_00 (m a b : Int) (w : World) (hm0 : 0 ≤ m) (hm1 : m ≤ 5) (h1 : 0 < a) (h2 : a ≤ 1000000000000000000) (h3 : 0 < b) (h4 : b ≤ 1000000000000000000) :
  Calls Tryd.prog 27 #[.int .i64 a, .int .i64 b, .int .i64 m] w fun e w' => e = .returned (.int .i64 (sgn false (rqN m false (a / b) (a % b) b))) ∧ Below w.heap.size w w' := by
 obtain ⟨z, hz⟩ : ∃ z, sgn false (rqN m false (a / b) (a % b) b) = z := ⟨_, rfl⟩
 rw [hz]
 have HZ := Lib.hid hz
 clear hz
 have q0 : 0 ≤ a / b := Int.ediv_nonneg (by omega) (by omega)
 have q2 : a / b ≤ 1000000000000000000 := Int.le_trans (Int.ediv_le_self _ (by omega)) h2
 have q3 : 0 ≤ a % b := Int.emod_nonneg _ (by omega)
 have q4 : a % b < b := Int.emod_lt_of_pos _ h3
 have hz : (b == 0) = false := by simp; omega
 have hza : (a == 0) = false := by simp; omega
 have hzb : (a != 0) = true := by simp; omega
 have hzc : (a == 0) = false := by simp; omega
 have h0 : 0 ≤ a := by omega
 have hs : ∀ w, Calls Tryd.prog 10 #[.int .i64 a] w fun e w' => e = .returned (.int .i64 a) ∧ w = w' := fun w => (size_any a w (by omega) (by omega)).mono fun _ _ h => by rw [show ((a : Int).natAbs : Int) = a by omega] at h; exact h
 have ht : ∀ w, Calls Tryd.prog 10 #[.int .i64 b] w fun e w' => e = .returned (.int .i64 b) ∧ w = w' := fun w => (size_any b w (by omega) (by omega)).mono fun _ _ h => by rw [show ((b : Int).natAbs : Int) = b by omega] at h; exact h
 have HS := Lib.hid hs
 have HT := Lib.hid ht
 clear hs ht
 have na : decide (a < 0) = false := decide_eq_false (by omega)
 have nb : decide (b < 0) = false := decide_eq_false (by omega)
 have hb0 : ¬ b = 0 := by omega
 have hdv : IntKind.i64.wrap ((a : Int).tdiv b) = a / b := by rw [Int.tdiv_eq_ediv_of_nonneg (by omega), IntKind.wrap_i64]; omega
 have hmd : (a : Int).tmod b = a % b := Int.tmod_eq_emod_of_nonneg (by omega)
 have HB0 := Lib.hid hb0
 have HDV := Lib.hid hdv
 have HMD := Lib.hid hmd
 have hw0 : IntKind.i64.wrap 0 = 0 := by rw [IntKind.wrap_i64]; rfl
 clear hb0 hdv hmd
 go_enter Tryd.func27, Tryd.ntmps27
 go_upto_region 2 with (fail)
 refine AS.region_facts (rqFL a b a b (a / b) (a % b)) (DNo w) [[], [21], [], [23], [22, 24], [], [26], [], [28], [27, 29], [], [31], [25], [30], [32]] [] [[]] [0, 0, 0, 0, 0, 0, 0, 0, 0, 0, 0, 0, 0, 0, 0] [] (fun u => by simp only [rqFL, AS.temps, List.map_cons, List.map_nil, fillL, List.setIfInBounds_toArray, List.set_cons_zero, List.set_cons_succ]; rfl) (by kernel_rfl) (by kernel_rfl) (DNo.st w) (dc_drew (Below.refl _ _)) ?_ ?_
 ·refine AS.sc rfl rfl rfl ?_ ?_
  ·intro k_ u w_ hk hJ hF K hK
   clear hF
   go_simp
   exact hK.out _ _ (Below.refl _ _) (rfl) trivial
  refine AS.sc rfl rfl rfl ?_ ?_
  ·intro k_ u w_ hk hJ hF K hK
   have h21 : u 21 = .int .i64 a := AS.facts_get hF 21 (by simp)
   clear hF
   simp only [h21] at hK ⊢
   clear h21
   go_simp
   refine (HS.out _).mono ?_
   rintro e w' ⟨rfl, rfl⟩
   exact hK.out _ _ (Below.refl _ _) rfl trivial
  refine AS.sc rfl rfl rfl ?_ ?_
  ·intro k_ u w_ hk hJ hF K hK
   clear hF
   go_simp
   exact hK.out _ _ (Below.refl _ _) (rfl) trivial
  refine AS.sc rfl rfl rfl ?_ ?_
  ·intro k_ u w_ hk hJ hF K hK
   have h23 : u 23 = .int .i64 b := AS.facts_get hF 23 (by simp)
   clear hF
   simp only [h23] at hK ⊢
   clear h23
   go_simp
   refine (HT.out _).mono ?_
   rintro e w' ⟨rfl, rfl⟩
   exact hK.out _ _ (Below.refl _ _) rfl trivial
  refine AS.sc rfl rfl rfl ?_ ?_
  ·intro k_ u w_ hk hJ hF K hK
   have h22 : u 22 = .int .i64 a := AS.facts_get hF 22 (by simp)
   have h24 : u 24 = .int .i64 b := AS.facts_get hF 24 (by simp)
   clear hF
   simp only [h22, h24] at hK ⊢
   clear h22 h24
   have o0 := HB0.out
   have o1 := HDV.out
   have o2 := HMD.out
   go_simp
   exact hK.out _ _ (Below.refl _ _) rfl trivial
  refine AS.sc rfl rfl rfl ?_ ?_
  ·intro k_ u w_ hk hJ hF K hK
   clear hF
   go_simp
   exact hK.out _ _ (Below.refl _ _) (rfl) trivial
  refine AS.sc rfl rfl rfl ?_ ?_
  ·intro k_ u w_ hk hJ hF K hK
   have h26 : u 26 = .int .i64 a := AS.facts_get hF 26 (by simp)
   clear hF
   simp only [h26] at hK ⊢
   clear h26
   go_simp
   refine (HS.out _).mono ?_
   rintro e w' ⟨rfl, rfl⟩
   exact hK.out _ _ (Below.refl _ _) rfl trivial
  refine AS.sc rfl rfl rfl ?_ ?_
  ·intro k_ u w_ hk hJ hF K hK
   clear hF
   go_simp
   exact hK.out _ _ (Below.refl _ _) (rfl) trivial
  refine AS.sc rfl rfl rfl ?_ ?_
  ·intro k_ u w_ hk hJ hF K hK
   have h28 : u 28 = .int .i64 b := AS.facts_get hF 28 (by simp)
   clear hF
   simp only [h28] at hK ⊢
   clear h28
   go_simp
   refine (HT.out _).mono ?_
   rintro e w' ⟨rfl, rfl⟩
   exact hK.out _ _ (Below.refl _ _) rfl trivial
  refine AS.sc rfl rfl rfl ?_ ?_
  ·intro k_ u w_ hk hJ hF K hK
   have h27 : u 27 = .int .i64 a := AS.facts_get hF 27 (by simp)
   have h29 : u 29 = .int .i64 b := AS.facts_get hF 29 (by simp)
   clear hF
   simp only [h27, h29] at hK ⊢
   clear h27 h29
   have o0 := HB0.out
   have o1 := HDV.out
   have o2 := HMD.out
   go_simp
   exact hK.out _ _ (Below.refl _ _) rfl trivial
  refine AS.sc rfl rfl rfl ?_ ?_
  ·intro k_ u w_ hk hJ hF K hK
   clear hF
   go_simp
   exact hK.out _ _ (Below.refl _ _) (rfl) trivial
  refine AS.sc rfl rfl rfl ?_ ?_
  ·intro k_ u w_ hk hJ hF K hK
   have h31 : u 31 = .int .i64 b := AS.facts_get hF 31 (by simp)
   clear hF
   simp only [h31] at hK ⊢
   clear h31
   go_simp
   refine (HT.out _).mono ?_
   rintro e w' ⟨rfl, rfl⟩
   exact hK.out _ _ (Below.refl _ _) rfl trivial
  refine AS.sc rfl rfl rfl ?_ ?_
  ·intro k_ u w_ hk hJ hF K hK
   have h25 : u 25 = .int .i64 (a / b) := AS.facts_get hF 25 (by simp)
   clear hF
   simp only [h25] at hK ⊢
   clear h25
   go_simp
   exact hK.out _ _ (Below.refl _ _) rfl trivial
  refine AS.sc rfl rfl rfl ?_ ?_
  ·intro k_ u w_ hk hJ hF K hK
   have h30 : u 30 = .int .i64 (a % b) := AS.facts_get hF 30 (by simp)
   clear hF
   simp only [h30] at hK ⊢
   clear h30
   go_simp
   exact hK.out _ _ (Below.refl _ _) rfl trivial
  refine AS.sc rfl rfl rfl ?_ ?_
  ·intro k_ u w_ hk hJ hF K hK
   have h32 : u 32 = .int .i64 b := AS.facts_get hF 32 (by simp)
   clear hF
   simp only [h32] at hK ⊢
   clear h32
   go_simp
   exact hK.out _ _ (Below.refl _ _) rfl trivial
  exact AS.StepsOk.nil
 ·intro u W3 hJ9 hF
  have h8 : u 8 = .int .i64 (a / b) := AS.facts_get hF 8 (by simp [rqFL, AS.temps])
  have h9 : u 9 = .int .i64 (a % b) := AS.facts_get hF 9 (by simp [rqFL, AS.temps])
  have h10 : u 10 = .int .i64 b := AS.facts_get hF 10 (by simp [rqFL, AS.temps])
  clear hF
  rw [show u 8 = _ from h8, show u 9 = _ from h9, show u 10 = _ from h10]
  clear h8 h9 h10
  generalize a / b = x at *
  generalize a % b = r at *
  have hc : m = 0 ∨ m = 1 ∨ m = 2 ∨ m = 3 ∨ m = 4 ∨ m = 5 := by omega
  clear hm0 hm1
  rcases hc with rfl | rfl | rfl | rfl | rfl | rfl
  ·by_cases hr : 2 * r < b
   all_goals
    go_wp2_with fail
    go_ret
    exact ⟨dret_int (by rw [← HZ.out]; simp [sgn, rqN, upN, hr] <;> omega), hJ9⟩
  ·by_cases hr : 2 * r = b
   ·have hr1 : b ≤ 2 * r := by omega
    by_cases hx : x % 2 = 0
    ·have hx1 : (x % 2 == 1) = false := by simp; omega
     have hr2 : (2 * r == b) = true := by simpa using hr
     have hr3 : decide (b < 2 * r) = false := decide_eq_false (by omega)
     have HR := Lib.hid hr
     have HX := Lib.hid hx
     clear hr hx
     go_wp2_with fail
     go_ret
     exact ⟨dret_int (by rw [← HZ.out]; simp [sgn, rqN, upN, HR.out, HX.out] <;> omega), hJ9⟩
    ·have hx1 : (x % 2 == 1) = true := by simp; omega
     have hr2 : (2 * r == b) = true := by simpa using hr
     have hr3 : decide (b < 2 * r) = false := decide_eq_false (by omega)
     have hr4 : r ≠ 0 := by omega
     have HR := Lib.hid hr
     have HX := Lib.hid hx
     have H4 := Lib.hid hr4
     clear hr hx hr4
     go_wp2_with fail
     go_ret
     exact ⟨dret_int (by rw [← HZ.out]; simp [sgn, rqN, upN, HR.out, HX.out, H4.out] <;> omega), hJ9⟩
   ·have hr2 : (2 * r == b) = false := by simpa using hr
    have HR := Lib.hid hr
    clear hr
    by_cases hl : b < 2 * r
    ·have hr4 : r ≠ 0 := by omega
     have hl2 : ¬ 2 * r < b := by omega
     have H4 := Lib.hid hr4
     have HL := Lib.hid hl2
     clear hr4 hl2
     go_wp2_with fail
     go_ret
     exact ⟨dret_int (by rw [← HZ.out]; simp [sgn, rqN, upN, HR.out, HL.out, H4.out] <;> omega), hJ9⟩
    ·have hl1 : decide (b < 2 * r) = false := decide_eq_false hl
     have hl2 : 2 * r < b := by have := HR.out; omega
     have HL := Lib.hid hl2
     clear hl hl2
     go_wp2_with fail
     go_ret
     exact ⟨dret_int (by rw [← HZ.out]; simp [sgn, rqN, upN, HR.out, HL.out] <;> omega), hJ9⟩
  ·go_wp2_with fail
   go_ret
   exact ⟨dret_int (by rw [← HZ.out]; simp [sgn, rqN, upN]), hJ9⟩
  ·by_cases hr : r = 0
   ·subst hr
    go_wp2_with fail
    go_ret
    exact ⟨dret_int (by rw [← HZ.out]; simp [sgn, rqN, upN]), hJ9⟩
   ·have hr1 : 0 < r := by omega
    have HR := Lib.hid hr
    clear hr
    go_wp2_with fail
    go_ret
    exact ⟨dret_int (by rw [← HZ.out]; simp [sgn, rqN, upN, HR.out] <;> omega), hJ9⟩
  ·by_cases hr : r = 0
   ·subst hr
    go_wp2_with fail
    go_ret
    exact ⟨dret_int (by rw [← HZ.out]; simp [sgn, rqN, upN]), hJ9⟩
   ·have hr1 : 0 < r := by omega
    have HR := Lib.hid hr
    clear hr
    go_wp2_with fail
    go_ret
    exact ⟨dret_int (by rw [← HZ.out]; simp [sgn, rqN, upN, HR.out] <;> omega), hJ9⟩
  ·by_cases hr : r = 0
   ·subst hr
    go_wp2_with fail
    go_ret
    exact ⟨dret_int (by rw [← HZ.out]; simp [sgn, rqN, upN]), hJ9⟩
   ·have hr1 : 0 < r := by omega
    have HR := Lib.hid hr
    clear hr
    go_wp2_with fail
    go_ret
    exact ⟨dret_int (by rw [← HZ.out]; simp [sgn, rqN, upN, HR.out] <;> omega), hJ9⟩
set_option maxRecDepth 20000 in
set_option maxHeartbeats 3200000 in
theorem rq_01 (m a b : Int) (w : World) (hm0 : 0 ≤ m) (hm1 : m ≤ 5) (h1 : 0 < a) (h2 : a ≤ 1000000000000000000) (h3 : 0 < b) (h4 : b ≤ 1000000000000000000) :
  Calls Tryd.prog 27 #[.int .i64 a, .int .i64 (-b), .int .i64 m] w fun e w' => e = .returned (.int .i64 (sgn true (rqN m true (a / b) (a % b) b))) ∧ Below w.heap.size w w' := by
 obtain ⟨z, hz⟩ : ∃ z, sgn true (rqN m true (a / b) (a % b) b) = z := ⟨_, rfl⟩
 rw [hz]
 have HZ := Lib.hid hz
 clear hz
 have q0 : 0 ≤ a / b := Int.ediv_nonneg (by omega) (by omega)
 have q2 : a / b ≤ 1000000000000000000 := Int.le_trans (Int.ediv_le_self _ (by omega)) h2
 have q3 : 0 ≤ a % b := Int.emod_nonneg _ (by omega)
 have q4 : a % b < b := Int.emod_lt_of_pos _ h3
 have hz : (b == 0) = false := by simp; omega
 have hza : (a == 0) = false := by simp; omega
 have hzb : (a != 0) = true := by simp; omega
 have hzc : (a == 0) = false := by simp; omega
 have h0 : 0 ≤ a := by omega
 have hs : ∀ w, Calls Tryd.prog 10 #[.int .i64 a] w fun e w' => e = .returned (.int .i64 a) ∧ w = w' := fun w => (size_any a w (by omega) (by omega)).mono fun _ _ h => by rw [show ((a : Int).natAbs : Int) = a by omega] at h; exact h
 have ht : ∀ w, Calls Tryd.prog 10 #[.int .i64 (-b)] w fun e w' => e = .returned (.int .i64 b) ∧ w = w' := fun w => (size_any (-b) w (by omega) (by omega)).mono fun _ _ h => by rw [show (((-b) : Int).natAbs : Int) = b by omega] at h; exact h
 have HS := Lib.hid hs
 have HT := Lib.hid ht
 clear hs ht
 have na : decide (a < 0) = false := decide_eq_false (by omega)
 have hb0 : ¬ b = 0 := by omega
 have hdv : IntKind.i64.wrap ((a : Int).tdiv b) = a / b := by rw [Int.tdiv_eq_ediv_of_nonneg (by omega), IntKind.wrap_i64]; omega
 have hmd : (a : Int).tmod b = a % b := Int.tmod_eq_emod_of_nonneg (by omega)
 have HB0 := Lib.hid hb0
 have HDV := Lib.hid hdv
 have HMD := Lib.hid hmd
 have hw0 : IntKind.i64.wrap 0 = 0 := by rw [IntKind.wrap_i64]; rfl
 clear hb0 hdv hmd
 go_enter Tryd.func27, Tryd.ntmps27
 go_upto_region 2 with (fail)
 refine AS.region_facts (rqFL a (-b) a b (a / b) (a % b)) (DNo w) [[], [21], [], [23], [22, 24], [], [26], [], [28], [27, 29], [], [31], [25], [30], [32]] [] [[]] [0, 0, 0, 0, 0, 0, 0, 0, 0, 0, 0, 0, 0, 0, 0] [] (fun u => by simp only [rqFL, AS.temps, List.map_cons, List.map_nil, fillL, List.setIfInBounds_toArray, List.set_cons_zero, List.set_cons_succ]; rfl) (by kernel_rfl) (by kernel_rfl) (DNo.st w) (dc_drew (Below.refl _ _)) ?_ ?_
 ·refine AS.sc rfl rfl rfl ?_ ?_
  ·intro k_ u w_ hk hJ hF K hK
   clear hF
   go_simp
   exact hK.out _ _ (Below.refl _ _) (rfl) trivial
  refine AS.sc rfl rfl rfl ?_ ?_
  ·intro k_ u w_ hk hJ hF K hK
   have h21 : u 21 = .int .i64 a := AS.facts_get hF 21 (by simp)
   clear hF
   simp only [h21] at hK ⊢
   clear h21
   go_simp
   refine (HS.out _).mono ?_
   rintro e w' ⟨rfl, rfl⟩
   exact hK.out _ _ (Below.refl _ _) rfl trivial
  refine AS.sc rfl rfl rfl ?_ ?_
  ·intro k_ u w_ hk hJ hF K hK
   clear hF
   go_simp
   exact hK.out _ _ (Below.refl _ _) (rfl) trivial
  refine AS.sc rfl rfl rfl ?_ ?_
  ·intro k_ u w_ hk hJ hF K hK
   have h23 : u 23 = .int .i64 (-b) := AS.facts_get hF 23 (by simp)
   clear hF
   simp only [h23] at hK ⊢
   clear h23
   go_simp
   refine (HT.out _).mono ?_
   rintro e w' ⟨rfl, rfl⟩
   exact hK.out _ _ (Below.refl _ _) rfl trivial
  refine AS.sc rfl rfl rfl ?_ ?_
  ·intro k_ u w_ hk hJ hF K hK
   have h22 : u 22 = .int .i64 a := AS.facts_get hF 22 (by simp)
   have h24 : u 24 = .int .i64 b := AS.facts_get hF 24 (by simp)
   clear hF
   simp only [h22, h24] at hK ⊢
   clear h22 h24
   have o0 := HB0.out
   have o1 := HDV.out
   have o2 := HMD.out
   go_simp
   exact hK.out _ _ (Below.refl _ _) rfl trivial
  refine AS.sc rfl rfl rfl ?_ ?_
  ·intro k_ u w_ hk hJ hF K hK
   clear hF
   go_simp
   exact hK.out _ _ (Below.refl _ _) (rfl) trivial
  refine AS.sc rfl rfl rfl ?_ ?_
  ·intro k_ u w_ hk hJ hF K hK
   have h26 : u 26 = .int .i64 a := AS.facts_get hF 26 (by simp)
   clear hF
   simp only [h26] at hK ⊢
   clear h26
   go_simp
   refine (HS.out _).mono ?_
   rintro e w' ⟨rfl, rfl⟩
   exact hK.out _ _ (Below.refl _ _) rfl trivial
  refine AS.sc rfl rfl rfl ?_ ?_
  ·intro k_ u w_ hk hJ hF K hK
   clear hF
   go_simp
   exact hK.out _ _ (Below.refl _ _) (rfl) trivial
  refine AS.sc rfl rfl rfl ?_ ?_
  ·intro k_ u w_ hk hJ hF K hK
   have h28 : u 28 = .int .i64 (-b) := AS.facts_get hF 28 (by simp)
   clear hF
   simp only [h28] at hK ⊢
   clear h28
   go_simp
   refine (HT.out _).mono ?_
   rintro e w' ⟨rfl, rfl⟩
   exact hK.out _ _ (Below.refl _ _) rfl trivial
  refine AS.sc rfl rfl rfl ?_ ?_
  ·intro k_ u w_ hk hJ hF K hK
   have h27 : u 27 = .int .i64 a := AS.facts_get hF 27 (by simp)
   have h29 : u 29 = .int .i64 b := AS.facts_get hF 29 (by simp)
   clear hF
   simp only [h27, h29] at hK ⊢
   clear h27 h29
   have o0 := HB0.out
   have o1 := HDV.out
   have o2 := HMD.out
   go_simp
   exact hK.out _ _ (Below.refl _ _) rfl trivial
  refine AS.sc rfl rfl rfl ?_ ?_
  ·intro k_ u w_ hk hJ hF K hK
   clear hF
   go_simp
   exact hK.out _ _ (Below.refl _ _) (rfl) trivial
  refine AS.sc rfl rfl rfl ?_ ?_
  ·intro k_ u w_ hk hJ hF K hK
   have h31 : u 31 = .int .i64 (-b) := AS.facts_get hF 31 (by simp)
   clear hF
   simp only [h31] at hK ⊢
   clear h31
   go_simp
   refine (HT.out _).mono ?_
   rintro e w' ⟨rfl, rfl⟩
   exact hK.out _ _ (Below.refl _ _) rfl trivial
  refine AS.sc rfl rfl rfl ?_ ?_
  ·intro k_ u w_ hk hJ hF K hK
   have h25 : u 25 = .int .i64 (a / b) := AS.facts_get hF 25 (by simp)
   clear hF
   simp only [h25] at hK ⊢
   clear h25
   go_simp
   exact hK.out _ _ (Below.refl _ _) rfl trivial
  refine AS.sc rfl rfl rfl ?_ ?_
  ·intro k_ u w_ hk hJ hF K hK
   have h30 : u 30 = .int .i64 (a % b) := AS.facts_get hF 30 (by simp)
   clear hF
   simp only [h30] at hK ⊢
   clear h30
   go_simp
   exact hK.out _ _ (Below.refl _ _) rfl trivial
  refine AS.sc rfl rfl rfl ?_ ?_
  ·intro k_ u w_ hk hJ hF K hK
   have h32 : u 32 = .int .i64 b := AS.facts_get hF 32 (by simp)
   clear hF
   simp only [h32] at hK ⊢
   clear h32
   go_simp
   exact hK.out _ _ (Below.refl _ _) rfl trivial
  exact AS.StepsOk.nil
 ·intro u W3 hJ9 hF
  have h8 : u 8 = .int .i64 (a / b) := AS.facts_get hF 8 (by simp [rqFL, AS.temps])
  have h9 : u 9 = .int .i64 (a % b) := AS.facts_get hF 9 (by simp [rqFL, AS.temps])
  have h10 : u 10 = .int .i64 b := AS.facts_get hF 10 (by simp [rqFL, AS.temps])
  clear hF
  rw [show u 8 = _ from h8, show u 9 = _ from h9, show u 10 = _ from h10]
  clear h8 h9 h10
  generalize a / b = x at *
  generalize a % b = r at *
  have hc : m = 0 ∨ m = 1 ∨ m = 2 ∨ m = 3 ∨ m = 4 ∨ m = 5 := by omega
  clear hm0 hm1
  rcases hc with rfl | rfl | rfl | rfl | rfl | rfl
  ·by_cases hr : 2 * r < b
   all_goals
    go_wp2_with fail
    go_ret
    exact ⟨dret_int (by rw [← HZ.out]; simp [sgn, rqN, upN, hr] <;> omega), hJ9⟩
  ·by_cases hr : 2 * r = b
   ·have hr1 : b ≤ 2 * r := by omega
    by_cases hx : x % 2 = 0
    ·have hx1 : (x % 2 == 1) = false := by simp; omega
     have hr2 : (2 * r == b) = true := by simpa using hr
     have hr3 : decide (b < 2 * r) = false := decide_eq_false (by omega)
     have HR := Lib.hid hr
     have HX := Lib.hid hx
     clear hr hx
     go_wp2_with fail
     go_ret
     exact ⟨dret_int (by rw [← HZ.out]; simp [sgn, rqN, upN, HR.out, HX.out] <;> omega), hJ9⟩
    ·have hx1 : (x % 2 == 1) = true := by simp; omega
     have hr2 : (2 * r == b) = true := by simpa using hr
     have hr3 : decide (b < 2 * r) = false := decide_eq_false (by omega)
     have hr4 : r ≠ 0 := by omega
     have HR := Lib.hid hr
     have HX := Lib.hid hx
     have H4 := Lib.hid hr4
     clear hr hx hr4
     go_wp2_with fail
     go_ret
     exact ⟨dret_int (by rw [← HZ.out]; simp [sgn, rqN, upN, HR.out, HX.out, H4.out] <;> omega), hJ9⟩
   ·have hr2 : (2 * r == b) = false := by simpa using hr
    have HR := Lib.hid hr
    clear hr
    by_cases hl : b < 2 * r
    ·have hr4 : r ≠ 0 := by omega
     have hl2 : ¬ 2 * r < b := by omega
     have H4 := Lib.hid hr4
     have HL := Lib.hid hl2
     clear hr4 hl2
     go_wp2_with fail
     go_ret
     exact ⟨dret_int (by rw [← HZ.out]; simp [sgn, rqN, upN, HR.out, HL.out, H4.out] <;> omega), hJ9⟩
    ·have hl1 : decide (b < 2 * r) = false := decide_eq_false hl
     have hl2 : 2 * r < b := by have := HR.out; omega
     have HL := Lib.hid hl2
     clear hl hl2
     go_wp2_with fail
     go_ret
     exact ⟨dret_int (by rw [← HZ.out]; simp [sgn, rqN, upN, HR.out, HL.out] <;> omega), hJ9⟩
  ·go_wp2_with fail
   go_ret
   exact ⟨dret_int (by rw [← HZ.out]; simp [sgn, rqN, upN]), hJ9⟩
  ·by_cases hr : r = 0
   ·subst hr
    go_wp2_with fail
    go_ret
    exact ⟨dret_int (by rw [← HZ.out]; simp [sgn, rqN, upN]), hJ9⟩
   ·have hr1 : 0 < r := by omega
    have HR := Lib.hid hr
    clear hr
    go_wp2_with fail
    go_ret
    exact ⟨dret_int (by rw [← HZ.out]; simp [sgn, rqN, upN, HR.out] <;> omega), hJ9⟩
  ·by_cases hr : r = 0
   ·subst hr
    go_wp2_with fail
    go_ret
    exact ⟨dret_int (by rw [← HZ.out]; simp [sgn, rqN, upN]), hJ9⟩
   ·have hr1 : 0 < r := by omega
    have HR := Lib.hid hr
    clear hr
    go_wp2_with fail
    go_ret
    exact ⟨dret_int (by rw [← HZ.out]; simp [sgn, rqN, upN, HR.out] <;> omega), hJ9⟩
  ·by_cases hr : r = 0
   ·subst hr
    go_wp2_with fail
    go_ret
    exact ⟨dret_int (by rw [← HZ.out]; simp [sgn, rqN, upN]), hJ9⟩
   ·have hr1 : 0 < r := by omega
    have HR := Lib.hid hr
    clear hr
    go_wp2_with fail
    go_ret
    exact ⟨dret_int (by rw [← HZ.out]; simp [sgn, rqN, upN, HR.out] <;> omega), hJ9⟩
set_option maxRecDepth 20000 in
set_option maxHeartbeats 3200000 in
theorem rq_10 (m a b : Int) (w : World) (hm0 : 0 ≤ m) (hm1 : m ≤ 5) (h1 : 0 < a) (h2 : a ≤ 1000000000000000000) (h3 : 0 < b) (h4 : b ≤ 1000000000000000000) :
  Calls Tryd.prog 27 #[.int .i64 (-a), .int .i64 b, .int .i64 m] w fun e w' => e = .returned (.int .i64 (sgn true (rqN m true (a / b) (a % b) b))) ∧ Below w.heap.size w w' := by
 obtain ⟨z, hz⟩ : ∃ z, sgn true (rqN m true (a / b) (a % b) b) = z := ⟨_, rfl⟩
 rw [hz]
 have HZ := Lib.hid hz
 clear hz
 have q0 : 0 ≤ a / b := Int.ediv_nonneg (by omega) (by omega)
 have q2 : a / b ≤ 1000000000000000000 := Int.le_trans (Int.ediv_le_self _ (by omega)) h2
 have q3 : 0 ≤ a % b := Int.emod_nonneg _ (by omega)
 have q4 : a % b < b := Int.emod_lt_of_pos _ h3
 have hz : (b == 0) = false := by simp; omega
 have hza : (a == 0) = false := by simp; omega
 have hzb : ((-a) != 0) = true := by simp; omega
 have hzc : ((-a) == 0) = false := by simp; omega
 have h0 : 0 ≤ a := by omega
 have hs : ∀ w, Calls Tryd.prog 10 #[.int .i64 (-a)] w fun e w' => e = .returned (.int .i64 a) ∧ w = w' := fun w => (size_any (-a) w (by omega) (by omega)).mono fun _ _ h => by rw [show (((-a) : Int).natAbs : Int) = a by omega] at h; exact h
 have ht : ∀ w, Calls Tryd.prog 10 #[.int .i64 b] w fun e w' => e = .returned (.int .i64 b) ∧ w = w' := fun w => (size_any b w (by omega) (by omega)).mono fun _ _ h => by rw [show ((b : Int).natAbs : Int) = b by omega] at h; exact h
 have HS := Lib.hid hs
 have HT := Lib.hid ht
 clear hs ht
 have nb : decide (b < 0) = false := decide_eq_false (by omega)
 have hb0 : ¬ b = 0 := by omega
 have hdv : IntKind.i64.wrap ((a : Int).tdiv b) = a / b := by rw [Int.tdiv_eq_ediv_of_nonneg (by omega), IntKind.wrap_i64]; omega
 have hmd : (a : Int).tmod b = a % b := Int.tmod_eq_emod_of_nonneg (by omega)
 have HB0 := Lib.hid hb0
 have HDV := Lib.hid hdv
 have HMD := Lib.hid hmd
 have hw0 : IntKind.i64.wrap 0 = 0 := by rw [IntKind.wrap_i64]; rfl
 clear hb0 hdv hmd
 go_enter Tryd.func27, Tryd.ntmps27
 go_upto_region 2 with (fail)
 refine AS.region_facts (rqFL (-a) b a b (a / b) (a % b)) (DNo w) [[], [21], [], [23], [22, 24], [], [26], [], [28], [27, 29], [], [31], [25], [30], [32]] [] [[]] [0, 0, 0, 0, 0, 0, 0, 0, 0, 0, 0, 0, 0, 0, 0] [] (fun u => by simp only [rqFL, AS.temps, List.map_cons, List.map_nil, fillL, List.setIfInBounds_toArray, List.set_cons_zero, List.set_cons_succ]; rfl) (by kernel_rfl) (by kernel_rfl) (DNo.st w) (dc_drew (Below.refl _ _)) ?_ ?_
 ·refine AS.sc rfl rfl rfl ?_ ?_
  ·intro k_ u w_ hk hJ hF K hK
   clear hF
   go_simp
   exact hK.out _ _ (Below.refl _ _) (rfl) trivial
  refine AS.sc rfl rfl rfl ?_ ?_
  ·intro k_ u w_ hk hJ hF K hK
   have h21 : u 21 = .int .i64 (-a) := AS.facts_get hF 21 (by simp)
   clear hF
   simp only [h21] at hK ⊢
   clear h21
   go_simp
   refine (HS.out _).mono ?_
   rintro e w' ⟨rfl, rfl⟩
   exact hK.out _ _ (Below.refl _ _) rfl trivial
  refine AS.sc rfl rfl rfl ?_ ?_
  ·intro k_ u w_ hk hJ hF K hK
   clear hF
   go_simp
   exact hK.out _ _ (Below.refl _ _) (rfl) trivial
  refine AS.sc rfl rfl rfl ?_ ?_
  ·intro k_ u w_ hk hJ hF K hK
   have h23 : u 23 = .int .i64 b := AS.facts_get hF 23 (by simp)
   clear hF
   simp only [h23] at hK ⊢
   clear h23
   go_simp
   refine (HT.out _).mono ?_
   rintro e w' ⟨rfl, rfl⟩
   exact hK.out _ _ (Below.refl _ _) rfl trivial
  refine AS.sc rfl rfl rfl ?_ ?_
  ·intro k_ u w_ hk hJ hF K hK
   have h22 : u 22 = .int .i64 a := AS.facts_get hF 22 (by simp)
   have h24 : u 24 = .int .i64 b := AS.facts_get hF 24 (by simp)
   clear hF
   simp only [h22, h24] at hK ⊢
   clear h22 h24
   have o0 := HB0.out
   have o1 := HDV.out
   have o2 := HMD.out
   go_simp
   exact hK.out _ _ (Below.refl _ _) rfl trivial
  refine AS.sc rfl rfl rfl ?_ ?_
  ·intro k_ u w_ hk hJ hF K hK
   clear hF
   go_simp
   exact hK.out _ _ (Below.refl _ _) (rfl) trivial
  refine AS.sc rfl rfl rfl ?_ ?_
  ·intro k_ u w_ hk hJ hF K hK
   have h26 : u 26 = .int .i64 (-a) := AS.facts_get hF 26 (by simp)
   clear hF
   simp only [h26] at hK ⊢
   clear h26
   go_simp
   refine (HS.out _).mono ?_
   rintro e w' ⟨rfl, rfl⟩
   exact hK.out _ _ (Below.refl _ _) rfl trivial
  refine AS.sc rfl rfl rfl ?_ ?_
  ·intro k_ u w_ hk hJ hF K hK
   clear hF
   go_simp
   exact hK.out _ _ (Below.refl _ _) (rfl) trivial
  refine AS.sc rfl rfl rfl ?_ ?_
  ·intro k_ u w_ hk hJ hF K hK
   have h28 : u 28 = .int .i64 b := AS.facts_get hF 28 (by simp)
   clear hF
   simp only [h28] at hK ⊢
   clear h28
   go_simp
   refine (HT.out _).mono ?_
   rintro e w' ⟨rfl, rfl⟩
   exact hK.out _ _ (Below.refl _ _) rfl trivial
  refine AS.sc rfl rfl rfl ?_ ?_
  ·intro k_ u w_ hk hJ hF K hK
   have h27 : u 27 = .int .i64 a := AS.facts_get hF 27 (by simp)
   have h29 : u 29 = .int .i64 b := AS.facts_get hF 29 (by simp)
   clear hF
   simp only [h27, h29] at hK ⊢
   clear h27 h29
   have o0 := HB0.out
   have o1 := HDV.out
   have o2 := HMD.out
   go_simp
   exact hK.out _ _ (Below.refl _ _) rfl trivial
  refine AS.sc rfl rfl rfl ?_ ?_
  ·intro k_ u w_ hk hJ hF K hK
   clear hF
   go_simp
   exact hK.out _ _ (Below.refl _ _) (rfl) trivial
  refine AS.sc rfl rfl rfl ?_ ?_
  ·intro k_ u w_ hk hJ hF K hK
   have h31 : u 31 = .int .i64 b := AS.facts_get hF 31 (by simp)
   clear hF
   simp only [h31] at hK ⊢
   clear h31
   go_simp
   refine (HT.out _).mono ?_
   rintro e w' ⟨rfl, rfl⟩
   exact hK.out _ _ (Below.refl _ _) rfl trivial
  refine AS.sc rfl rfl rfl ?_ ?_
  ·intro k_ u w_ hk hJ hF K hK
   have h25 : u 25 = .int .i64 (a / b) := AS.facts_get hF 25 (by simp)
   clear hF
   simp only [h25] at hK ⊢
   clear h25
   go_simp
   exact hK.out _ _ (Below.refl _ _) rfl trivial
  refine AS.sc rfl rfl rfl ?_ ?_
  ·intro k_ u w_ hk hJ hF K hK
   have h30 : u 30 = .int .i64 (a % b) := AS.facts_get hF 30 (by simp)
   clear hF
   simp only [h30] at hK ⊢
   clear h30
   go_simp
   exact hK.out _ _ (Below.refl _ _) rfl trivial
  refine AS.sc rfl rfl rfl ?_ ?_
  ·intro k_ u w_ hk hJ hF K hK
   have h32 : u 32 = .int .i64 b := AS.facts_get hF 32 (by simp)
   clear hF
   simp only [h32] at hK ⊢
   clear h32
   go_simp
   exact hK.out _ _ (Below.refl _ _) rfl trivial
  exact AS.StepsOk.nil
 ·intro u W3 hJ9 hF
  have h8 : u 8 = .int .i64 (a / b) := AS.facts_get hF 8 (by simp [rqFL, AS.temps])
  have h9 : u 9 = .int .i64 (a % b) := AS.facts_get hF 9 (by simp [rqFL, AS.temps])
  have h10 : u 10 = .int .i64 b := AS.facts_get hF 10 (by simp [rqFL, AS.temps])
  clear hF
  rw [show u 8 = _ from h8, show u 9 = _ from h9, show u 10 = _ from h10]
  clear h8 h9 h10
  generalize a / b = x at *
  generalize a % b = r at *
  have hc : m = 0 ∨ m = 1 ∨ m = 2 ∨ m = 3 ∨ m = 4 ∨ m = 5 := by omega
  clear hm0 hm1
  rcases hc with rfl | rfl | rfl | rfl | rfl | rfl
  ·by_cases hr : 2 * r < b
   all_goals
    go_wp2_with fail
    go_ret
    exact ⟨dret_int (by rw [← HZ.out]; simp [sgn, rqN, upN, hr] <;> omega), hJ9⟩
  ·by_cases hr : 2 * r = b
   ·have hr1 : b ≤ 2 * r := by omega
    by_cases hx : x % 2 = 0
    ·have hx1 : (x % 2 == 1) = false := by simp; omega
     have hr2 : (2 * r == b) = true := by simpa using hr
     have hr3 : decide (b < 2 * r) = false := decide_eq_false (by omega)
     have HR := Lib.hid hr
     have HX := Lib.hid hx
     clear hr hx
     go_wp2_with fail
     go_ret
     exact ⟨dret_int (by rw [← HZ.out]; simp [sgn, rqN, upN, HR.out, HX.out] <;> omega), hJ9⟩
    ·have hx1 : (x % 2 == 1) = true := by simp; omega
     have hr2 : (2 * r == b) = true := by simpa using hr
     have hr3 : decide (b < 2 * r) = false := decide_eq_false (by omega)
     have hr4 : r ≠ 0 := by omega
     have HR := Lib.hid hr
     have HX := Lib.hid hx
     have H4 := Lib.hid hr4
     clear hr hx hr4
     go_wp2_with fail
     go_ret
     exact ⟨dret_int (by rw [← HZ.out]; simp [sgn, rqN, upN, HR.out, HX.out, H4.out] <;> omega), hJ9⟩
   ·have hr2 : (2 * r == b) = false := by simpa using hr
    have HR := Lib.hid hr
    clear hr
    by_cases hl : b < 2 * r
    ·have hr4 : r ≠ 0 := by omega
     have hl2 : ¬ 2 * r < b := by omega
     have H4 := Lib.hid hr4
     have HL := Lib.hid hl2
     clear hr4 hl2
     go_wp2_with fail
     go_ret
     exact ⟨dret_int (by rw [← HZ.out]; simp [sgn, rqN, upN, HR.out, HL.out, H4.out] <;> omega), hJ9⟩
    ·have hl1 : decide (b < 2 * r) = false := decide_eq_false hl
     have hl2 : 2 * r < b := by have := HR.out; omega
     have HL := Lib.hid hl2
     clear hl hl2
     go_wp2_with fail
     go_ret
     exact ⟨dret_int (by rw [← HZ.out]; simp [sgn, rqN, upN, HR.out, HL.out] <;> omega), hJ9⟩
  ·go_wp2_with fail
   go_ret
   exact ⟨dret_int (by rw [← HZ.out]; simp [sgn, rqN, upN]), hJ9⟩
  ·by_cases hr : r = 0
   ·subst hr
    go_wp2_with fail
    go_ret
    exact ⟨dret_int (by rw [← HZ.out]; simp [sgn, rqN, upN]), hJ9⟩
   ·have hr1 : 0 < r := by omega
    have HR := Lib.hid hr
    clear hr
    go_wp2_with fail
    go_ret
    exact ⟨dret_int (by rw [← HZ.out]; simp [sgn, rqN, upN, HR.out] <;> omega), hJ9⟩
  ·by_cases hr : r = 0
   ·subst hr
    go_wp2_with fail
    go_ret
    exact ⟨dret_int (by rw [← HZ.out]; simp [sgn, rqN, upN]), hJ9⟩
   ·have hr1 : 0 < r := by omega
    have HR := Lib.hid hr
    clear hr
    go_wp2_with fail
    go_ret
    exact ⟨dret_int (by rw [← HZ.out]; simp [sgn, rqN, upN, HR.out] <;> omega), hJ9⟩
  ·by_cases hr : r = 0
   ·subst hr
    go_wp2_with fail
    go_ret
    exact ⟨dret_int (by rw [← HZ.out]; simp [sgn, rqN, upN]), hJ9⟩
   ·have hr1 : 0 < r := by omega
    have HR := Lib.hid hr
    clear hr
    go_wp2_with fail
    go_ret
    exact ⟨dret_int (by rw [← HZ.out]; simp [sgn, rqN, upN, HR.out] <;> omega), hJ9⟩
set_option maxRecDepth 20000 in
set_option maxHeartbeats 3200000 in
theorem rq_11 (m a b : Int) (w : World) (hm0 : 0 ≤ m) (hm1 : m ≤ 5) (h1 : 0 < a) (h2 : a ≤ 1000000000000000000) (h3 : 0 < b) (h4 : b ≤ 1000000000000000000) :
  Calls Tryd.prog 27 #[.int .i64 (-a), .int .i64 (-b), .int .i64 m] w fun e w' => e = .returned (.int .i64 (sgn false (rqN m false (a / b) (a % b) b))) ∧ Below w.heap.size w w' := by
 obtain ⟨z, hz⟩ : ∃ z, sgn false (rqN m false (a / b) (a % b) b) = z := ⟨_, rfl⟩
 rw [hz]
 have HZ := Lib.hid hz
 clear hz
 have q0 : 0 ≤ a / b := Int.ediv_nonneg (by omega) (by omega)
 have q2 : a / b ≤ 1000000000000000000 := Int.le_trans (Int.ediv_le_self _ (by omega)) h2
 have q3 : 0 ≤ a % b := Int.emod_nonneg _ (by omega)
 have q4 : a % b < b := Int.emod_lt_of_pos _ h3
 have hz : (b == 0) = false := by simp; omega
 have hza : (a == 0) = false := by simp; omega
 have hzb : ((-a) != 0) = true := by simp; omega
 have hzc : ((-a) == 0) = false := by simp; omega
 have h0 : 0 ≤ a := by omega
 have hs : ∀ w, Calls Tryd.prog 10 #[.int .i64 (-a)] w fun e w' => e = .returned (.int .i64 a) ∧ w = w' := fun w => (size_any (-a) w (by omega) (by omega)).mono fun _ _ h => by rw [show (((-a) : Int).natAbs : Int) = a by omega] at h; exact h
 have ht : ∀ w, Calls Tryd.prog 10 #[.int .i64 (-b)] w fun e w' => e = .returned (.int .i64 b) ∧ w = w' := fun w => (size_any (-b) w (by omega) (by omega)).mono fun _ _ h => by rw [show (((-b) : Int).natAbs : Int) = b by omega] at h; exact h
 have HS := Lib.hid hs
 have HT := Lib.hid ht
 clear hs ht
 have hb0 : ¬ b = 0 := by omega
 have hdv : IntKind.i64.wrap ((a : Int).tdiv b) = a / b := by rw [Int.tdiv_eq_ediv_of_nonneg (by omega), IntKind.wrap_i64]; omega
 have hmd : (a : Int).tmod b = a % b := Int.tmod_eq_emod_of_nonneg (by omega)
 have HB0 := Lib.hid hb0
 have HDV := Lib.hid hdv
 have HMD := Lib.hid hmd
 have hw0 : IntKind.i64.wrap 0 = 0 := by rw [IntKind.wrap_i64]; rfl
 clear hb0 hdv hmd
 go_enter Tryd.func27, Tryd.ntmps27
 go_upto_region 2 with (fail)
 refine AS.region_facts (rqFL (-a) (-b) a b (a / b) (a % b)) (DNo w) [[], [21], [], [23], [22, 24], [], [26], [], [28], [27, 29], [], [31], [25], [30], [32]] [] [[]] [0, 0, 0, 0, 0, 0, 0, 0, 0, 0, 0, 0, 0, 0, 0] [] (fun u => by simp only [rqFL, AS.temps, List.map_cons, List.map_nil, fillL, List.setIfInBounds_toArray, List.set_cons_zero, List.set_cons_succ]; rfl) (by kernel_rfl) (by kernel_rfl) (DNo.st w) (dc_drew (Below.refl _ _)) ?_ ?_
 ·refine AS.sc rfl rfl rfl ?_ ?_
  ·intro k_ u w_ hk hJ hF K hK
   clear hF
   go_simp
   exact hK.out _ _ (Below.refl _ _) (rfl) trivial
  refine AS.sc rfl rfl rfl ?_ ?_
  ·intro k_ u w_ hk hJ hF K hK
   have h21 : u 21 = .int .i64 (-a) := AS.facts_get hF 21 (by simp)
   clear hF
   simp only [h21] at hK ⊢
   clear h21
   go_simp
   refine (HS.out _).mono ?_
   rintro e w' ⟨rfl, rfl⟩
   exact hK.out _ _ (Below.refl _ _) rfl trivial
  refine AS.sc rfl rfl rfl ?_ ?_
  ·intro k_ u w_ hk hJ hF K hK
   clear hF
   go_simp
   exact hK.out _ _ (Below.refl _ _) (rfl) trivial
  refine AS.sc rfl rfl rfl ?_ ?_
  ·intro k_ u w_ hk hJ hF K hK
   have h23 : u 23 = .int .i64 (-b) := AS.facts_get hF 23 (by simp)
   clear hF
   simp only [h23] at hK ⊢
   clear h23
   go_simp
   refine (HT.out _).mono ?_
   rintro e w' ⟨rfl, rfl⟩
   exact hK.out _ _ (Below.refl _ _) rfl trivial
  refine AS.sc rfl rfl rfl ?_ ?_
  ·intro k_ u w_ hk hJ hF K hK
   have h22 : u 22 = .int .i64 a := AS.facts_get hF 22 (by simp)
   have h24 : u 24 = .int .i64 b := AS.facts_get hF 24 (by simp)
   clear hF
   simp only [h22, h24] at hK ⊢
   clear h22 h24
   have o0 := HB0.out
   have o1 := HDV.out
   have o2 := HMD.out
   go_simp
   exact hK.out _ _ (Below.refl _ _) rfl trivial
  refine AS.sc rfl rfl rfl ?_ ?_
  ·intro k_ u w_ hk hJ hF K hK
   clear hF
   go_simp
   exact hK.out _ _ (Below.refl _ _) (rfl) trivial
  refine AS.sc rfl rfl rfl ?_ ?_
  ·intro k_ u w_ hk hJ hF K hK
   have h26 : u 26 = .int .i64 (-a) := AS.facts_get hF 26 (by simp)
   clear hF
   simp only [h26] at hK ⊢
   clear h26
   go_simp
   refine (HS.out _).mono ?_
   rintro e w' ⟨rfl, rfl⟩
   exact hK.out _ _ (Below.refl _ _) rfl trivial
  refine AS.sc rfl rfl rfl ?_ ?_
  ·intro k_ u w_ hk hJ hF K hK
   clear hF
   go_simp
   exact hK.out _ _ (Below.refl _ _) (rfl) trivial
  refine AS.sc rfl rfl rfl ?_ ?_
  ·intro k_ u w_ hk hJ hF K hK
   have h28 : u 28 = .int .i64 (-b) := AS.facts_get hF 28 (by simp)
   clear hF
   simp only [h28] at hK ⊢
   clear h28
   go_simp
   refine (HT.out _).mono ?_
   rintro e w' ⟨rfl, rfl⟩
   exact hK.out _ _ (Below.refl _ _) rfl trivial
  refine AS.sc rfl rfl rfl ?_ ?_
  ·intro k_ u w_ hk hJ hF K hK
   have h27 : u 27 = .int .i64 a := AS.facts_get hF 27 (by simp)
   have h29 : u 29 = .int .i64 b := AS.facts_get hF 29 (by simp)
   clear hF
   simp only [h27, h29] at hK ⊢
   clear h27 h29
   have o0 := HB0.out
   have o1 := HDV.out
   have o2 := HMD.out
   go_simp
   exact hK.out _ _ (Below.refl _ _) rfl trivial
  refine AS.sc rfl rfl rfl ?_ ?_
  ·intro k_ u w_ hk hJ hF K hK
   clear hF
   go_simp
   exact hK.out _ _ (Below.refl _ _) (rfl) trivial
  refine AS.sc rfl rfl rfl ?_ ?_
  ·intro k_ u w_ hk hJ hF K hK
   have h31 : u 31 = .int .i64 (-b) := AS.facts_get hF 31 (by simp)
   clear hF
   simp only [h31] at hK ⊢
   clear h31
   go_simp
   refine (HT.out _).mono ?_
   rintro e w' ⟨rfl, rfl⟩
   exact hK.out _ _ (Below.refl _ _) rfl trivial
  refine AS.sc rfl rfl rfl ?_ ?_
  ·intro k_ u w_ hk hJ hF K hK
   have h25 : u 25 = .int .i64 (a / b) := AS.facts_get hF 25 (by simp)
   clear hF
   simp only [h25] at hK ⊢
   clear h25
   go_simp
   exact hK.out _ _ (Below.refl _ _) rfl trivial
  refine AS.sc rfl rfl rfl ?_ ?_
  ·intro k_ u w_ hk hJ hF K hK
   have h30 : u 30 = .int .i64 (a % b) := AS.facts_get hF 30 (by simp)
   clear hF
   simp only [h30] at hK ⊢
   clear h30
   go_simp
   exact hK.out _ _ (Below.refl _ _) rfl trivial
  refine AS.sc rfl rfl rfl ?_ ?_
  ·intro k_ u w_ hk hJ hF K hK
   have h32 : u 32 = .int .i64 b := AS.facts_get hF 32 (by simp)
   clear hF
   simp only [h32] at hK ⊢
   clear h32
   go_simp
   exact hK.out _ _ (Below.refl _ _) rfl trivial
  exact AS.StepsOk.nil
 ·intro u W3 hJ9 hF
  have h8 : u 8 = .int .i64 (a / b) := AS.facts_get hF 8 (by simp [rqFL, AS.temps])
  have h9 : u 9 = .int .i64 (a % b) := AS.facts_get hF 9 (by simp [rqFL, AS.temps])
  have h10 : u 10 = .int .i64 b := AS.facts_get hF 10 (by simp [rqFL, AS.temps])
  clear hF
  rw [show u 8 = _ from h8, show u 9 = _ from h9, show u 10 = _ from h10]
  clear h8 h9 h10
  generalize a / b = x at *
  generalize a % b = r at *
  have hc : m = 0 ∨ m = 1 ∨ m = 2 ∨ m = 3 ∨ m = 4 ∨ m = 5 := by omega
  clear hm0 hm1
  rcases hc with rfl | rfl | rfl | rfl | rfl | rfl
  ·by_cases hr : 2 * r < b
   all_goals
    go_wp2_with fail
    go_ret
    exact ⟨dret_int (by rw [← HZ.out]; simp [sgn, rqN, upN, hr] <;> omega), hJ9⟩
  ·by_cases hr : 2 * r = b
   ·have hr1 : b ≤ 2 * r := by omega
    by_cases hx : x % 2 = 0
    ·have hx1 : (x % 2 == 1) = false := by simp; omega
     have hr2 : (2 * r == b) = true := by simpa using hr
     have hr3 : decide (b < 2 * r) = false := decide_eq_false (by omega)
     have HR := Lib.hid hr
     have HX := Lib.hid hx
     clear hr hx
     go_wp2_with fail
     go_ret
     exact ⟨dret_int (by rw [← HZ.out]; simp [sgn, rqN, upN, HR.out, HX.out] <;> omega), hJ9⟩
    ·have hx1 : (x % 2 == 1) = true := by simp; omega
     have hr2 : (2 * r == b) = true := by simpa using hr
     have hr3 : decide (b < 2 * r) = false := decide_eq_false (by omega)
     have hr4 : r ≠ 0 := by omega
     have HR := Lib.hid hr
     have HX := Lib.hid hx
     have H4 := Lib.hid hr4
     clear hr hx hr4
     go_wp2_with fail
     go_ret
     exact ⟨dret_int (by rw [← HZ.out]; simp [sgn, rqN, upN, HR.out, HX.out, H4.out] <;> omega), hJ9⟩
   ·have hr2 : (2 * r == b) = false := by simpa using hr
    have HR := Lib.hid hr
    clear hr
    by_cases hl : b < 2 * r
    ·have hr4 : r ≠ 0 := by omega
     have hl2 : ¬ 2 * r < b := by omega
     have H4 := Lib.hid hr4
     have HL := Lib.hid hl2
     clear hr4 hl2
     go_wp2_with fail
     go_ret
     exact ⟨dret_int (by rw [← HZ.out]; simp [sgn, rqN, upN, HR.out, HL.out, H4.out] <;> omega), hJ9⟩
    ·have hl1 : decide (b < 2 * r) = false := decide_eq_false hl
     have hl2 : 2 * r < b := by have := HR.out; omega
     have HL := Lib.hid hl2
     clear hl hl2
     go_wp2_with fail
     go_ret
     exact ⟨dret_int (by rw [← HZ.out]; simp [sgn, rqN, upN, HR.out, HL.out] <;> omega), hJ9⟩
  ·go_wp2_with fail
   go_ret
   exact ⟨dret_int (by rw [← HZ.out]; simp [sgn, rqN, upN]), hJ9⟩
  ·by_cases hr : r = 0
   ·subst hr
    go_wp2_with fail
    go_ret
    exact ⟨dret_int (by rw [← HZ.out]; simp [sgn, rqN, upN]), hJ9⟩
   ·have hr1 : 0 < r := by omega
    have HR := Lib.hid hr
    clear hr
    go_wp2_with fail
    go_ret
    exact ⟨dret_int (by rw [← HZ.out]; simp [sgn, rqN, upN, HR.out] <;> omega), hJ9⟩
  ·by_cases hr : r = 0
   ·subst hr
    go_wp2_with fail
    go_ret
    exact ⟨dret_int (by rw [← HZ.out]; simp [sgn, rqN, upN]), hJ9⟩
   ·have hr1 : 0 < r := by omega
    have HR := Lib.hid hr
    clear hr
    go_wp2_with fail
    go_ret
    exact ⟨dret_int (by rw [← HZ.out]; simp [sgn, rqN, upN, HR.out] <;> omega), hJ9⟩
  ·by_cases hr : r = 0
   ·subst hr
    go_wp2_with fail
    go_ret
    exact ⟨dret_int (by rw [← HZ.out]; simp [sgn, rqN, upN]), hJ9⟩
   ·have hr1 : 0 < r := by omega
    have HR := Lib.hid hr
    clear hr
    go_wp2_with fail
    go_ret
    exact ⟨dret_int (by rw [← HZ.out]; simp [sgn, rqN, upN, HR.out] <;> omega), hJ9⟩
set_option maxRecDepth 20000 in
set_option maxHeartbeats 3200000 in
theorem rq_20 (m b : Int) (w : World) (hm0 : 0 ≤ m) (hm1 : m ≤ 5) (h3 : b ≠ 0) (h4 : -1000000000000000000 ≤ b) (h5 : b ≤ 1000000000000000000) :
  Calls Tryd.prog 27 #[.int .i64 0, .int .i64 b, .int .i64 m] w fun e w' => e = .returned (.int .i64 (0)) ∧ Below w.heap.size w w' := by
 have hs : ∀ w, Calls Tryd.prog 10 #[.int .i64 0] w fun e w' => e = .returned (.int .i64 0) ∧ w = w' := fun w => size_any 0 w (by omega) (by omega)
 have ht : ∀ w, Calls Tryd.prog 10 #[.int .i64 b] w fun e w' => e = .returned (.int .i64 (b.natAbs : Int)) ∧ w = w' := fun w => size_any b w (by omega) (by omega)
 have HS := Lib.hid hs
 have HT := Lib.hid ht
 obtain ⟨B, hB⟩ : ∃ B, (b.natAbs : Int) = B := ⟨_, rfl⟩
 have hB0 : 0 < B := by omega
 rw [hB] at HT
 clear hs ht hB h3 h4 h5
 have hz : (B == 0) = false := by simp; omega
 have q0 : (0 : Int) / B = 0 := Int.zero_ediv _
 have q1 : (0 : Int) % B = 0 := Int.zero_emod _
 have Q0 := Lib.hid q0
 have Q1 := Lib.hid q1
 clear q0 q1
 have hb0 : ¬ B = 0 := by omega
 have hdv : IntKind.i64.wrap ((0 : Int).tdiv B) = 0 / B := by rw [Int.tdiv_eq_ediv_of_nonneg (by omega), IntKind.wrap_i64]; rw [Q0.out]; rfl
 have hmd : (0 : Int).tmod B = 0 % B := Int.tmod_eq_emod_of_nonneg (by omega)
 have HB0 := Lib.hid hb0
 have HDV := Lib.hid hdv
 have HMD := Lib.hid hmd
 have hw0 : IntKind.i64.wrap 0 = 0 := by rw [IntKind.wrap_i64]; rfl
 clear hb0 hdv hmd
 go_enter Tryd.func27, Tryd.ntmps27
 go_upto_region 2 with (fail)
 refine AS.region_facts (rqFL 0 b 0 B 0 0) (DNo w) [[], [21], [], [23], [22, 24], [], [26], [], [28], [27, 29], [], [31], [25], [30], [32]] [] [[]] [0, 0, 0, 0, 0, 0, 0, 0, 0, 0, 0, 0, 0, 0, 0] [] (fun u => by simp only [rqFL, AS.temps, List.map_cons, List.map_nil, fillL, List.setIfInBounds_toArray, List.set_cons_zero, List.set_cons_succ]; rfl) (by kernel_rfl) (by kernel_rfl) (DNo.st w) (dc_drew (Below.refl _ _)) ?_ ?_
 ·refine AS.sc rfl rfl rfl ?_ ?_
  ·intro k_ u w_ hk hJ hF K hK
   clear hF
   go_simp
   exact hK.out _ _ (Below.refl _ _) (rfl) trivial
  refine AS.sc rfl rfl rfl ?_ ?_
  ·intro k_ u w_ hk hJ hF K hK
   have h21 : u 21 = .int .i64 0 := AS.facts_get hF 21 (by simp)
   clear hF
   simp only [h21] at hK ⊢
   clear h21
   go_simp
   refine (HS.out _).mono ?_
   rintro e w' ⟨rfl, rfl⟩
   exact hK.out _ _ (Below.refl _ _) rfl trivial
  refine AS.sc rfl rfl rfl ?_ ?_
  ·intro k_ u w_ hk hJ hF K hK
   clear hF
   go_simp
   exact hK.out _ _ (Below.refl _ _) (rfl) trivial
  refine AS.sc rfl rfl rfl ?_ ?_
  ·intro k_ u w_ hk hJ hF K hK
   have h23 : u 23 = .int .i64 b := AS.facts_get hF 23 (by simp)
   clear hF
   simp only [h23] at hK ⊢
   clear h23
   go_simp
   refine (HT.out _).mono ?_
   rintro e w' ⟨rfl, rfl⟩
   exact hK.out _ _ (Below.refl _ _) rfl trivial
  refine AS.sc rfl rfl rfl ?_ ?_
  ·intro k_ u w_ hk hJ hF K hK
   have h22 : u 22 = .int .i64 0 := AS.facts_get hF 22 (by simp)
   have h24 : u 24 = .int .i64 B := AS.facts_get hF 24 (by simp)
   clear hF
   simp only [h22, h24] at hK ⊢
   clear h22 h24
   have o0 := HB0.out
   have o1 := HDV.out
   have o2 := HMD.out
   go_simp
   exact hK.out _ _ (Below.refl _ _) rfl trivial
  refine AS.sc rfl rfl rfl ?_ ?_
  ·intro k_ u w_ hk hJ hF K hK
   clear hF
   go_simp
   exact hK.out _ _ (Below.refl _ _) (rfl) trivial
  refine AS.sc rfl rfl rfl ?_ ?_
  ·intro k_ u w_ hk hJ hF K hK
   have h26 : u 26 = .int .i64 0 := AS.facts_get hF 26 (by simp)
   clear hF
   simp only [h26] at hK ⊢
   clear h26
   go_simp
   refine (HS.out _).mono ?_
   rintro e w' ⟨rfl, rfl⟩
   exact hK.out _ _ (Below.refl _ _) rfl trivial
  refine AS.sc rfl rfl rfl ?_ ?_
  ·intro k_ u w_ hk hJ hF K hK
   clear hF
   go_simp
   exact hK.out _ _ (Below.refl _ _) (rfl) trivial
  refine AS.sc rfl rfl rfl ?_ ?_
  ·intro k_ u w_ hk hJ hF K hK
   have h28 : u 28 = .int .i64 b := AS.facts_get hF 28 (by simp)
   clear hF
   simp only [h28] at hK ⊢
   clear h28
   go_simp
   refine (HT.out _).mono ?_
   rintro e w' ⟨rfl, rfl⟩
   exact hK.out _ _ (Below.refl _ _) rfl trivial
  refine AS.sc rfl rfl rfl ?_ ?_
  ·intro k_ u w_ hk hJ hF K hK
   have h27 : u 27 = .int .i64 0 := AS.facts_get hF 27 (by simp)
   have h29 : u 29 = .int .i64 B := AS.facts_get hF 29 (by simp)
   clear hF
   simp only [h27, h29] at hK ⊢
   clear h27 h29
   have o0 := HB0.out
   have o1 := HDV.out
   have o2 := HMD.out
   go_simp
   exact hK.out _ _ (Below.refl _ _) rfl trivial
  refine AS.sc rfl rfl rfl ?_ ?_
  ·intro k_ u w_ hk hJ hF K hK
   clear hF
   go_simp
   exact hK.out _ _ (Below.refl _ _) (rfl) trivial
  refine AS.sc rfl rfl rfl ?_ ?_
  ·intro k_ u w_ hk hJ hF K hK
   have h31 : u 31 = .int .i64 b := AS.facts_get hF 31 (by simp)
   clear hF
   simp only [h31] at hK ⊢
   clear h31
   go_simp
   refine (HT.out _).mono ?_
   rintro e w' ⟨rfl, rfl⟩
   exact hK.out _ _ (Below.refl _ _) rfl trivial
  refine AS.sc rfl rfl rfl ?_ ?_
  ·intro k_ u w_ hk hJ hF K hK
   have h25 : u 25 = .int .i64 0 := AS.facts_get hF 25 (by simp)
   clear hF
   simp only [h25] at hK ⊢
   clear h25
   go_simp
   exact hK.out _ _ (Below.refl _ _) rfl trivial
  refine AS.sc rfl rfl rfl ?_ ?_
  ·intro k_ u w_ hk hJ hF K hK
   have h30 : u 30 = .int .i64 0 := AS.facts_get hF 30 (by simp)
   clear hF
   simp only [h30] at hK ⊢
   clear h30
   go_simp
   exact hK.out _ _ (Below.refl _ _) rfl trivial
  refine AS.sc rfl rfl rfl ?_ ?_
  ·intro k_ u w_ hk hJ hF K hK
   have h32 : u 32 = .int .i64 B := AS.facts_get hF 32 (by simp)
   clear hF
   simp only [h32] at hK ⊢
   clear h32
   go_simp
   exact hK.out _ _ (Below.refl _ _) rfl trivial
  exact AS.StepsOk.nil
 ·intro u W3 hJ9 hF
  have h8 : u 8 = .int .i64 0 := AS.facts_get hF 8 (by simp [rqFL, AS.temps])
  have h9 : u 9 = .int .i64 0 := AS.facts_get hF 9 (by simp [rqFL, AS.temps])
  have h10 : u 10 = .int .i64 B := AS.facts_get hF 10 (by simp [rqFL, AS.temps])
  clear hF
  rw [show u 8 = _ from h8, show u 9 = _ from h9, show u 10 = _ from h10]
  clear h8 h9 h10
  have hc : m = 0 ∨ m = 1 ∨ m = 2 ∨ m = 3 ∨ m = 4 ∨ m = 5 := by omega
  clear hm0 hm1
  rcases hc with rfl | rfl | rfl | rfl | rfl | rfl
  all_goals
   go_wp2_with fail
   go_ret
   exact ⟨rfl, hJ9⟩
theorem dcquo_any (m a b : Int) (w : World) (hm0 : 0 ≤ m) (hm1 : m ≤ 5) (h1 : -1000000000000000000 ≤ a) (h2 : a ≤ 1000000000000000000) (h3 : -1000000000000000000 ≤ b) (h4 : b ≤ 1000000000000000000) (h0 : b ≠ 0) :
  Calls Tryd.prog 27 #[.int .i64 a, .int .i64 b, .int .i64 m] w fun e w' => e = .returned (.int .i64 (rnd m a b)) ∧ Below w.heap.size w w' := by
 by_cases hz : a = 0
 ·subst hz
  rw [rnd_zero m b hm0 hm1 h0]
  exact rq_20 m b w hm0 hm1 h0 h3 h4
 unfold rnd
 by_cases ha : a < 0
 ·obtain ⟨A, rfl⟩ : ∃ A, a = -A := ⟨-a, by omega⟩
  rw [show ((-A).natAbs : Int) = A by omega]
  by_cases hb : b < 0
  ·obtain ⟨B, rfl⟩ : ∃ B, b = -B := ⟨-b, by omega⟩
   rw [show ((-B).natAbs : Int) = B by omega, show negB (-A) (-B) = false by unfold negB; rw [decide_eq_true ha, decide_eq_true hb]; rfl]
   exact rq_11 m A B w hm0 hm1 (by omega) (by omega) (by omega) (by omega)
  ·rw [show (b.natAbs : Int) = b by omega, show negB (-A) b = true by unfold negB; rw [decide_eq_true ha, decide_eq_false hb]; rfl]
   exact rq_10 m A b w hm0 hm1 (by omega) (by omega) (by omega) (by omega)
 ·rw [show (a.natAbs : Int) = a by omega]
  by_cases hb : b < 0
  ·obtain ⟨B, rfl⟩ : ∃ B, b = -B := ⟨-b, by omega⟩
   rw [show ((-B).natAbs : Int) = B by omega, show negB a (-B) = true by unfold negB; rw [decide_eq_false ha, decide_eq_true hb]; rfl]
   exact rq_01 m a B w hm0 hm1 (by omega) (by omega) (by omega) (by omega)
  ·rw [show (b.natAbs : Int) = b by omega, show negB a b = false by unfold negB; rw [decide_eq_false ha, decide_eq_false hb]; rfl]
   exact rq_00 m a b w hm0 hm1 (by omega) (by omega) (by omega) (by omega)
theorem power_at (x : Int) (h0 : 0 ≤ x) (h9 : x ≤ 9) (w : World) : Calls Tryd.prog 24 #[.int .i64 x] w fun e w' => e = .returned (.int .i64 (pw x.toNat)) ∧ w = w' := by
 obtain ⟨k, rfl⟩ : ∃ k : Nat, x = k := ⟨x.toNat, by omega⟩
 exact power_any k (by omega) w
theorem rpower_at (x : Int) (h0 : 0 ≤ x) (h9 : x ≤ 9) (w : World) : Calls Tryd.prog 28 #[.int .i64 x] w fun e w' => e = .returned (.int .i64 (pw x.toNat)) ∧ w = w' := by
 obtain ⟨k, rfl⟩ : ∃ k : Nat, x = k := ⟨x.toNat, by omega⟩
 exact rpower_any k (by omega) w
theorem pw_add (j k : Nat) : pw (j + k) = pw j * pw k := by unfold pw; rw [Nat.pow_add]; simp
theorem mul_grow {y c M : Int} (hc : 1 ≤ c) (h1 : -M ≤ y * c) (h2 : y * c ≤ M) : -M ≤ y ∧ y ≤ M := by
 rcases Int.le_total 0 y with h | h
 ·have := Int.mul_le_mul_of_nonneg_left hc h
  rw [Int.mul_one] at this
  omega
 ·have := Int.mul_le_mul_of_nonpos_left h hc
  rw [Int.mul_one] at this
  omega
theorem scale_mono {n M : Int} {j k : Nat} (h : j ≤ k) (h1 : -M ≤ n * pw k) (h2 : n * pw k ≤ M) : -M ≤ n * pw j ∧ n * pw j ≤ M := by
 have e : pw k = pw j * pw (k - j) := by rw [← pw_add]; congr 1; omega
 rw [e, ← Int.mul_assoc] at h1 h2
 refine mul_grow ?_ h1 h2
 have : 0 < 10 ^ (k - j) := Nat.pow_pos (by omega)
 unfold pw; omega
def rangeB (x : Int) : Bool := decide (-1000000000000000 ≤ x) && decide (x ≤ 1000000000000000)
def rescE (n f t m : Int) : Int := if modeB m && scaleB t then (if validB n f then (if t < f then 0 else if rangeB (n * pw (t - f).toNat) then 0 else 2) else 2) else 1
def rescV (n f t m : Int) : Int := if rescE n f t m = 0 then (if t < f then rnd m n (pw (f - t).toNat) else n * pw (t - f).toNat) else 0
theorem range_div {n p : Int} (hp : 0 < p) : (-(1000000000000000 / p) ≤ n ∧ n ≤ 1000000000000000 / p) ↔ (-1000000000000000 ≤ n * p ∧ n * p ≤ 1000000000000000) := by
 have h1 : ∀ x : Int, x ≤ 1000000000000000 / p ↔ x * p ≤ 1000000000000000 := fun x => Int.le_ediv_iff_mul_le hp
 have h2 := h1 n
 have h3 := h1 (-n)
 rw [Int.neg_mul] at h3
 constructor
 ·intro h; exact ⟨by have := h3.1 (by omega); omega, h2.1 h.2⟩
 ·intro h; exact ⟨by have := h3.2 (by omega); omega, h2.2 h.2⟩
theorem rnd_one (m n : Int) (hm0 : 0 ≤ m) (hm1 : m ≤ 5) : rnd m n 1 = n := by
 have hc : m = 0 ∨ m = 1 ∨ m = 2 ∨ m = 3 ∨ m = 4 ∨ m = 5 := by omega
 have e : rqN m (negB n 1) ((n.natAbs : Int) / ((1 : Int).natAbs : Int)) ((n.natAbs : Int) % ((1 : Int).natAbs : Int)) ((1 : Int).natAbs : Int) = (n.natAbs : Int) := by
  rw [show ((1 : Int).natAbs : Int) = 1 from rfl, Int.ediv_one, Int.emod_one]
  rcases hc with rfl | rfl | rfl | rfl | rfl | rfl <;> simp [rqN, upN]
 unfold rnd
 rw [e]
 unfold sgn negB
 by_cases h : n < 0
 ·rw [decide_eq_true h, decide_eq_false (by decide)]; simp; omega
 ·rw [decide_eq_false h, decide_eq_false (by decide)]; simp; omega
theorem pw_zero : pw 0 = 1 := rfl
theorem dret_ii {j k : IntKind} {a b c d : Int} (h : a = b) (h2 : c = d) : Ending.returned (.tuple #[.int j a, .int k c]) = .returned (.tuple #[.int j b, .int k d]) := by rw [h, h2]
set_option maxHeartbeats 3200000 in
theorem rescale_any (n f t m : Int) (w : World) : Calls Tryd.prog 12 #[.int .i64 n, .int .i64 f, .int .i64 t, .int .i64 m] w fun e w' => e = .returned (.tuple #[.int .i64 (rescV n f t m), .int .i64 (rescE n f t m)]) ∧ Below w.heap.size w w' := by
 unfold rescV rescE
 cases hm : modeB m
 ·rw [if_neg (by simp), if_neg (by simp)]
  have hB := Below.refl w.heap.size w
  go_enter Tryd.func12, Tryd.ntmps12
  go_wp2_with (first | (go_at_call 19; refine (isMode_any _ _).mono ?_; rintro e w' ⟨rfl, hb⟩; replace hB := below_more hB hb; clear hb) | (go_at_call 22; refine (isScale_any _ _).mono ?_; rintro e w' ⟨rfl, rfl⟩) | (go_at_call 23; refine (valid_any _ _ _).mono ?_; rintro e w' ⟨rfl, rfl⟩) | (go_at_call 21; refine (rounded_any _ _ _ _ (by omega) (by omega) (by omega) (by omega) (by omega) (by omega) (by omega)).mono ?_; rintro e w' ⟨rfl, hb⟩; replace hB := below_more hB hb; clear hb))
  go_ret2
  exact ⟨rfl, hB⟩
 ·have hm2 := modeB_is hm
  obtain ⟨hm3, hm4⟩ := hm2
  rw [Bool.true_and]
  cases hs : scaleB t
  ·rw [if_neg (by simp), if_neg (by simp)]
   have hB := Below.refl w.heap.size w
   go_enter Tryd.func12, Tryd.ntmps12
   go_wp2_with (first | (go_at_call 19; refine (isMode_any _ _).mono ?_; rintro e w' ⟨rfl, hb⟩; replace hB := below_more hB hb; clear hb) | (go_at_call 22; refine (isScale_any _ _).mono ?_; rintro e w' ⟨rfl, rfl⟩) | (go_at_call 23; refine (valid_any _ _ _).mono ?_; rintro e w' ⟨rfl, rfl⟩) | (go_at_call 21; refine (rounded_any _ _ _ _ (by omega) (by omega) (by omega) (by omega) (by omega) (by omega) (by omega)).mono ?_; rintro e w' ⟨rfl, hb⟩; replace hB := below_more hB hb; clear hb))
   go_ret2
   exact ⟨rfl, hB⟩
  ·obtain ⟨ht0, ht9⟩ := scaleB_is hs
   rw [if_pos rfl]
   cases hv : validB n f
   ·rw [if_neg (by simp), if_neg (by simp)]
    have hB := Below.refl w.heap.size w
    go_enter Tryd.func12, Tryd.ntmps12
    go_wp2_with (first | (go_at_call 19; refine (isMode_any _ _).mono ?_; rintro e w' ⟨rfl, hb⟩; replace hB := below_more hB hb; clear hb) | (go_at_call 22; refine (isScale_any _ _).mono ?_; rintro e w' ⟨rfl, rfl⟩) | (go_at_call 23; refine (valid_any _ _ _).mono ?_; rintro e w' ⟨rfl, rfl⟩) | (go_at_call 21; refine (rounded_any _ _ _ _ (by omega) (by omega) (by omega) (by omega) (by omega) (by omega) (by omega)).mono ?_; rintro e w' ⟨rfl, hb⟩; replace hB := below_more hB hb; clear hb))
    go_ret2
    exact ⟨rfl, hB⟩
   ·rw [if_pos rfl]
    obtain ⟨⟨hn1, hn2⟩, hf0, hf9⟩ := validB_is hv
    by_cases hlt : t < f
    ·rw [if_pos hlt, if_pos hlt, if_pos rfl]
     have hpp := pw_bd (show (f - t).toNat ≤ 9 by omega)
     have hp : ∀ w, Calls Tryd.prog 24 #[.int .i64 (f - t)] w fun e w' => e = .returned (.int .i64 (pw (f - t).toNat)) ∧ w = w' := fun w => power_at _ (by omega) (by omega) w
     obtain ⟨p, hpe⟩ : ∃ p, pw (f - t).toNat = p := ⟨_, rfl⟩
     rw [hpe] at hp hpp ⊢
     obtain ⟨hp1, hp2⟩ := hpp
     have HP := Lib.hid hp
     have HPE := Lib.hid hpe
     clear hp hpe
     have hp0 : p ≠ 0 := by omega
     clear hs hv
     have hs : scaleB t = true := by simp [scaleB]; omega
     have hv : validB n f = true := by simp [validB, scaleB]; omega
     have hB := Below.refl w.heap.size w
     go_enter Tryd.func12, Tryd.ntmps12
     go_wp2_with (first | (go_at_call 19; refine (isMode_any _ _).mono ?_; rintro e w' ⟨rfl, hb⟩; replace hB := below_more hB hb; clear hb) | (go_at_call 22; refine (isScale_any _ _).mono ?_; rintro e w' ⟨rfl, rfl⟩) | (go_at_call 23; refine (valid_any _ _ _).mono ?_; rintro e w' ⟨rfl, rfl⟩) | (go_at_call 24; refine (HP.out _).mono ?_; rintro e w' ⟨rfl, rfl⟩) | (go_at_call 21; refine (rounded_any _ _ _ _ (by omega) (by omega) (by omega) (by omega) (by omega) (by omega) (by omega)).mono ?_; rintro e w' ⟨rfl, hb⟩; replace hB := below_more hB hb; clear hb))
     go_ret2
     exact ⟨rfl, hB⟩
    ·rw [if_neg hlt, if_neg hlt]
     have hpp := pw_bd (show (t - f).toNat ≤ 9 by omega)
     have hp : ∀ w, Calls Tryd.prog 24 #[.int .i64 (t - f)] w fun e w' => e = .returned (.int .i64 (pw (t - f).toNat)) ∧ w = w' := fun w => power_at _ (by omega) (by omega) w
     obtain ⟨p, hpe⟩ : ∃ p, pw (t - f).toNat = p := ⟨_, rfl⟩
     rw [hpe] at hp hpp ⊢
     obtain ⟨hp1, hp2⟩ := hpp
     have HP := Lib.hid hp
     have HPE := Lib.hid hpe
     clear hp hpe
     have hrd := range_div (n := n) (p := p) (by omega)
     have hq0 : 0 ≤ 1000000000000000 / p := Int.ediv_nonneg (by omega) (by omega)
     have hq1 : 1000000000000000 / p ≤ 1000000000000000 := Int.ediv_le_self _ (by omega)
     have hpz : (p == 0) = false := by simp; omega
     by_cases h1 : n < -(1000000000000000 / p)
     ·have hr : rangeB (n * p) = false := by
       have h2 : ¬ (-(1000000000000000 / p) ≤ n ∧ n ≤ 1000000000000000 / p) := fun h => by omega
       rw [hrd] at h2
       simp [rangeB]; omega
      rw [hr]
      clear hrd hr
      rw [if_neg (by simp), if_neg (by simp)]
      have hB := Below.refl w.heap.size w
      go_enter Tryd.func12, Tryd.ntmps12
      go_wp2_with (first | (go_at_call 19; refine (isMode_any _ _).mono ?_; rintro e w' ⟨rfl, hb⟩; replace hB := below_more hB hb; clear hb) | (go_at_call 22; refine (isScale_any _ _).mono ?_; rintro e w' ⟨rfl, rfl⟩) | (go_at_call 23; refine (valid_any _ _ _).mono ?_; rintro e w' ⟨rfl, rfl⟩) | (go_at_call 24; refine (HP.out _).mono ?_; rintro e w' ⟨rfl, rfl⟩) | (go_at_call 21; refine (rounded_any _ _ _ _ (by omega) (by omega) (by omega) (by omega) (by omega) (by omega) (by omega)).mono ?_; rintro e w' ⟨rfl, hb⟩; replace hB := below_more hB hb; clear hb))
      go_ret2
      exact ⟨rfl, hB⟩
     ·by_cases h2 : 1000000000000000 / p < n
      ·have hr : rangeB (n * p) = false := by
        have h3 : ¬ (-(1000000000000000 / p) ≤ n ∧ n ≤ 1000000000000000 / p) := fun h => by omega
        rw [hrd] at h3
        simp [rangeB]; omega
       rw [hr]
       clear hrd hr
       have h4 : decide (n < -(1000000000000000 / p)) = false := decide_eq_false h1
       rw [if_neg (by simp), if_neg (by simp)]
       have hB := Below.refl w.heap.size w
       go_enter Tryd.func12, Tryd.ntmps12
       go_wp2_with (first | (go_at_call 19; refine (isMode_any _ _).mono ?_; rintro e w' ⟨rfl, hb⟩; replace hB := below_more hB hb; clear hb) | (go_at_call 22; refine (isScale_any _ _).mono ?_; rintro e w' ⟨rfl, rfl⟩) | (go_at_call 23; refine (valid_any _ _ _).mono ?_; rintro e w' ⟨rfl, rfl⟩) | (go_at_call 24; refine (HP.out _).mono ?_; rintro e w' ⟨rfl, rfl⟩) | (go_at_call 21; refine (rounded_any _ _ _ _ (by omega) (by omega) (by omega) (by omega) (by omega) (by omega) (by omega)).mono ?_; rintro e w' ⟨rfl, hb⟩; replace hB := below_more hB hb; clear hb))
       go_ret2
       exact ⟨rfl, hB⟩
      ·have hx := hrd.1 ⟨by omega, by omega⟩
       obtain ⟨hx1, hx2⟩ := hx
       rw [show rangeB (n * p) = true by simp [rangeB]; omega, if_pos rfl, if_pos rfl]
       have h4 : decide (n < -(1000000000000000 / p)) = false := decide_eq_false h1
       have h5 : decide (1000000000000000 / p < n) = false := decide_eq_false h2
       clear hrd h1 h2
       have hB := Below.refl w.heap.size w
       go_enter Tryd.func12, Tryd.ntmps12
       go_wp2_with (first | (go_at_call 19; refine (isMode_any _ _).mono ?_; rintro e w' ⟨rfl, hb⟩; replace hB := below_more hB hb; clear hb) | (go_at_call 22; refine (isScale_any _ _).mono ?_; rintro e w' ⟨rfl, rfl⟩) | (go_at_call 23; refine (valid_any _ _ _).mono ?_; rintro e w' ⟨rfl, rfl⟩) | (go_at_call 24; refine (HP.out _).mono ?_; rintro e w' ⟨rfl, rfl⟩) | (go_at_call 21; refine (rounded_any _ _ _ _ (by omega) (by omega) (by omega) (by omega) (by omega) (by omega) (by omega)).mono ?_; rintro e w' ⟨rfl, hb⟩; replace hB := below_more hB hb; clear hb))
       go_ret2
       exact ⟨rfl, hB⟩
set_option maxHeartbeats 3200000 in
theorem rrescale_any (n f t m : Int) (w : World) : Calls Tryd.prog 13 #[.int .i64 n, .int .i64 f, .int .i64 t, .int .i64 m] w fun e w' => e = .returned (.tuple #[.int .i64 (rescV n f t m), .int .i64 (rescE n f t m)]) ∧ Below w.heap.size w w' := by
 unfold rescV rescE
 cases hm : modeB m
 ·rw [if_neg (by simp), if_neg (by simp)]
  have hB := Below.refl w.heap.size w
  go_enter Tryd.func13, Tryd.ntmps13
  go_wp2_with (first | (go_at_call 25; refine (known_any _ _).mono ?_; rintro e w' ⟨rfl, rfl⟩) | (go_at_call 26; refine (rvalid_any _ _ _).mono ?_; rintro e w' ⟨rfl, rfl⟩) | (go_at_call 27; refine (dcquo_any _ _ _ _ (by omega) (by omega) (by omega) (by omega) (by omega) (by omega) (by omega)).mono ?_; rintro e w' ⟨rfl, hb⟩; replace hB := below_more hB hb; clear hb))
  go_ret2
  exact ⟨rfl, hB⟩
 ·have hm2 := modeB_is hm
  obtain ⟨hm3, hm4⟩ := hm2
  rw [Bool.true_and]
  by_cases ht0 : t < 0
  ·rw [show scaleB t = false by simp [scaleB]; omega]
   rw [if_neg (by simp), if_neg (by simp)]
   have hB := Below.refl w.heap.size w
   go_enter Tryd.func13, Tryd.ntmps13
   go_wp2_with (first | (go_at_call 25; refine (known_any _ _).mono ?_; rintro e w' ⟨rfl, rfl⟩) | (go_at_call 26; refine (rvalid_any _ _ _).mono ?_; rintro e w' ⟨rfl, rfl⟩) | (go_at_call 27; refine (dcquo_any _ _ _ _ (by omega) (by omega) (by omega) (by omega) (by omega) (by omega) (by omega)).mono ?_; rintro e w' ⟨rfl, hb⟩; replace hB := below_more hB hb; clear hb))
   go_ret2
   exact ⟨rfl, hB⟩
  ·by_cases ht9 : 9 < t
   ·rw [show scaleB t = false by simp [scaleB]; omega]
    rw [if_neg (by simp), if_neg (by simp)]
    have ht1 : decide (t < 0) = false := decide_eq_false ht0
    clear ht0
    have hB := Below.refl w.heap.size w
    go_enter Tryd.func13, Tryd.ntmps13
    go_wp2_with (first | (go_at_call 25; refine (known_any _ _).mono ?_; rintro e w' ⟨rfl, rfl⟩) | (go_at_call 26; refine (rvalid_any _ _ _).mono ?_; rintro e w' ⟨rfl, rfl⟩) | (go_at_call 27; refine (dcquo_any _ _ _ _ (by omega) (by omega) (by omega) (by omega) (by omega) (by omega) (by omega)).mono ?_; rintro e w' ⟨rfl, hb⟩; replace hB := below_more hB hb; clear hb))
    go_ret2
    exact ⟨rfl, hB⟩
   have ht1 : decide (t < 0) = false := decide_eq_false ht0
   have ht2 : decide (9 < t) = false := decide_eq_false ht9
   rw [show scaleB t = true by simp [scaleB]; omega, if_pos rfl]
   cases hv : validB n f
   ·rw [if_neg (by simp), if_neg (by simp)]
    have hB := Below.refl w.heap.size w
    go_enter Tryd.func13, Tryd.ntmps13
    go_wp2_with (first | (go_at_call 25; refine (known_any _ _).mono ?_; rintro e w' ⟨rfl, rfl⟩) | (go_at_call 26; refine (rvalid_any _ _ _).mono ?_; rintro e w' ⟨rfl, rfl⟩) | (go_at_call 27; refine (dcquo_any _ _ _ _ (by omega) (by omega) (by omega) (by omega) (by omega) (by omega) (by omega)).mono ?_; rintro e w' ⟨rfl, hb⟩; replace hB := below_more hB hb; clear hb))
    go_ret2
    exact ⟨rfl, hB⟩
   ·rw [if_pos rfl]
    obtain ⟨⟨hn1, hn2⟩, hf0, hf9⟩ := validB_is hv
    by_cases hlt : t ≤ f
    ·have hV : (if t < f then rnd m n (pw (f - t).toNat) else n * pw (t - f).toNat) = rnd m n (pw (f - t).toNat) := by
      by_cases h : t < f
      ·rw [if_pos h]
      ·obtain rfl : t = f := by omega
       rw [if_neg h, Int.sub_self, show (0 : Int).toNat = 0 from rfl, pw_zero, Int.mul_one, rnd_one m n hm3 hm4]
     have hE : (if t < f then (0 : Int) else if rangeB (n * pw (t - f).toNat) = true then 0 else 2) = 0 := by
      by_cases h : t < f
      ·rw [if_pos h]
      ·obtain rfl : t = f := by omega
       rw [if_neg h, Int.sub_self, show (0 : Int).toNat = 0 from rfl, pw_zero, Int.mul_one, if_pos (by simp [rangeB]; omega)]
     rw [hE, if_pos rfl, hV]
     clear hV hE
     have hpp := pw_bd (show (f - t).toNat ≤ 9 by omega)
     have hp : ∀ w, Calls Tryd.prog 28 #[.int .i64 (f - t)] w fun e w' => e = .returned (.int .i64 (pw (f - t).toNat)) ∧ w = w' := fun w => rpower_at _ (by omega) (by omega) w
     obtain ⟨p, hpe⟩ : ∃ p, pw (f - t).toNat = p := ⟨_, rfl⟩
     rw [hpe] at hp hpp ⊢
     obtain ⟨hp1, hp2⟩ := hpp
     have HP := Lib.hid hp
     have HPE := Lib.hid hpe
     clear hp hpe
     have hp0 : p ≠ 0 := by omega
     have hB := Below.refl w.heap.size w
     go_enter Tryd.func13, Tryd.ntmps13
     go_wp2_with (first | (go_at_call 25; refine (known_any _ _).mono ?_; rintro e w' ⟨rfl, rfl⟩) | (go_at_call 26; refine (rvalid_any _ _ _).mono ?_; rintro e w' ⟨rfl, rfl⟩) | (go_at_call 28; refine (HP.out _).mono ?_; rintro e w' ⟨rfl, rfl⟩) | (go_at_call 27; refine (dcquo_any _ _ _ _ (by omega) (by omega) (by omega) (by omega) (by omega) (by omega) (by omega)).mono ?_; rintro e w' ⟨rfl, hb⟩; replace hB := below_more hB hb; clear hb))
     go_ret2
     exact ⟨rfl, hB⟩
    ·have hlf : ¬ t < f := by omega
     rw [if_neg hlf, if_neg hlf]
     obtain ⟨k, hk⟩ : ∃ k : Nat, t - f = k := ⟨(t - f).toNat, by omega⟩
     rw [hk, Int.toNat_natCast]
     have HK := Lib.hid hk
     clear hk
     have hle : decide (t ≤ f) = false := decide_eq_false hlt
     clear hlt hlf
     cases hr : rangeB (n * pw k)
     ·rw [if_neg (by simp), if_neg (by simp)]
      have hB := Below.refl w.heap.size w
      have HR := Lib.hid hr
      clear hr
      go_enter Tryd.func13, Tryd.ntmps13
      go_wp2_with (first | (go_at_call 25; refine (known_any _ _).mono ?_; rintro e w' ⟨rfl, rfl⟩) | (go_at_call 26; refine (rvalid_any _ _ _).mono ?_; rintro e w' ⟨rfl, rfl⟩))
      go_loop [0, 10] (fun x i => ∃ j : Nat, j ≤ k ∧ i = .int .i64 (f + j) ∧ ∃ X, x = .int .i64 X ∧ X = n * pw j ∧ -1000000000000000 ≤ X ∧ X ≤ 1000000000000000) (fun _ i => (t - intOf i).toNat)
      case atStart => exact ⟨0, Nat.zero_le _, by simp, n, rfl, by rw [pw_zero, Int.mul_one], hn1, hn2⟩
      case round =>
       obtain ⟨j, hj, rfl, X, rfl, hX, hX1, hX2⟩ := hrel
       have HX := Lib.hid hX
       clear hX
       by_cases hjk : j < k
       ·have hlt1 : f + (j : Int) < t := by have := HK.out; omega
        cases hv2 : validB (X * 10) t
        ·go_wp2_with (first | (go_at_call 25; refine (known_any _ _).mono ?_; rintro e w' ⟨rfl, rfl⟩) | (go_at_call 26; refine (rvalid_any _ _ _).mono ?_; rintro e w' ⟨rfl, rfl⟩))
         go_ret2
         exact ⟨rfl, hB⟩
        ·obtain ⟨⟨hy1, hy2⟩, -⟩ := validB_is hv2
         go_wp2_with (first | (go_at_call 25; refine (known_any _ _).mono ?_; rintro e w' ⟨rfl, rfl⟩) | (go_at_call 26; refine (rvalid_any _ _ _).mono ?_; rintro e w' ⟨rfl, rfl⟩))
         go_round
         case rel => exact ⟨j + 1, by omega, by simp; omega, X * 10, rfl, by rw [HX.out, pw_succ, Int.mul_assoc], hy1, hy2⟩
         case measure => simp [intOf]; omega
       ·exfalso
        obtain rfl : j = k := by omega
        have h1 := HR.out
        rw [← HX.out] at h1
        simp [rangeB] at h1
        omega
     ·have hr2 : -1000000000000000 ≤ n * pw k ∧ n * pw k ≤ 1000000000000000 := by simpa [rangeB] using hr
      rw [if_pos rfl, if_pos rfl]
      have hB := Below.refl w.heap.size w
      have HR := Lib.hid hr2
      clear hr hr2
      go_enter Tryd.func13, Tryd.ntmps13
      go_wp2_with (first | (go_at_call 25; refine (known_any _ _).mono ?_; rintro e w' ⟨rfl, rfl⟩) | (go_at_call 26; refine (rvalid_any _ _ _).mono ?_; rintro e w' ⟨rfl, rfl⟩))
      go_loop [0, 10] (fun x i => ∃ j : Nat, j ≤ k ∧ i = .int .i64 (f + j) ∧ ∃ X, x = .int .i64 X ∧ X = n * pw j ∧ -1000000000000000 ≤ X ∧ X ≤ 1000000000000000) (fun _ i => (t - intOf i).toNat)
      case atStart => exact ⟨0, Nat.zero_le _, by simp, n, rfl, by rw [pw_zero, Int.mul_one], hn1, hn2⟩
      case round =>
       obtain ⟨j, hj, rfl, X, rfl, hX, hX1, hX2⟩ := hrel
       by_cases hjk : j < k
       ·have hlt1 : f + (j : Int) < t := by have := HK.out; omega
        have hy := scale_mono (show j + 1 ≤ k by omega) HR.out.1 HR.out.2
        have hX3 : n * pw (j + 1) = X * 10 := by rw [hX, pw_succ, Int.mul_assoc]
        rw [hX3] at hy
        obtain ⟨hy1, hy2⟩ := hy
        have hv2 : validB (X * 10) t = true := by simp [validB, scaleB]; omega
        have HX := Lib.hid hX3
        clear hX hX3
        go_wp2_with (first | (go_at_call 25; refine (known_any _ _).mono ?_; rintro e w' ⟨rfl, rfl⟩) | (go_at_call 26; refine (rvalid_any _ _ _).mono ?_; rintro e w' ⟨rfl, rfl⟩))
        go_round
        case rel => exact ⟨j + 1, by omega, by simp; omega, X * 10, rfl, HX.out.symm, hy1, hy2⟩
        case measure => simp [intOf]; omega
       ·obtain rfl : j = k := by omega
        have HX := Lib.hid hX
        clear hX
        have hlt1 : decide (f + (j : Int) < t) = false := decide_eq_false (by have := HK.out; omega)
        go_wp2_with fail
        go_ret2
        exact ⟨dret_ii HX.out rfl, hB⟩
def cm (x y : Int) : Int := if x < y then -1 else if y < x then 1 else 0
theorem cm_trunc {A B x y r t : Int} (hA : A = x * 1000000000 + r) (hB : B = y * 1000000000 + t) (r1 : -1000000000 < r) (r2 : r < 1000000000) (t1 : -1000000000 < t) (t2 : t < 1000000000) (hx : (0 < x → 0 ≤ r) ∧ (x < 0 → r ≤ 0)) (hy : (0 < y → 0 ≤ t) ∧ (y < 0 → t ≤ 0)) :
  (if cm x y = 0 then cm r t else cm x y) = cm A B := by
 have hc : x < y ∨ x = y ∨ y < x := by omega
 rcases hc with h | h | h
 ·have e : cm x y = -1 := by unfold cm; rw [if_pos h]
  have e2 : cm A B = -1 := by unfold cm; rw [if_pos (by omega)]
  rw [e, e2]; rfl
 ·subst h
  have e : cm x x = 0 := by unfold cm; rw [if_neg (by omega), if_neg (by omega)]
  rw [e, if_pos rfl]
  unfold cm
  repeat' split <;> omega
 ·have e : cm x y = 1 := by unfold cm; rw [if_neg (by omega), if_pos h]
  have e2 : cm A B = 1 := by unfold cm; rw [if_neg (by omega), if_pos (by omega)]
  rw [e, e2]; rfl
theorem pw_nine {s : Int} (h0 : 0 ≤ s) (h9 : s ≤ 9) : pw s.toNat * pw (9 - s).toNat = 1000000000 := by
 rw [← pw_add, show s.toNat + (9 - s).toNat = 9 by omega]; rfl
def unitN (a s : Int) : Int := a * pw (9 - s).toNat
def compE (a sa b sb : Int) : Int := if validB a sa && validB b sb then 0 else 2
def compV (a sa b sb : Int) : Int := if compE a sa b sb = 0 then cm (unitN a sa) (unitN b sb) else 0
theorem split_facts {a s : Int} (h : validB a s = true) : ∃ U P X Q RP : Int, pw s.toNat = U ∧ pw (9 - s).toNat = P ∧ a.tdiv U = X ∧ a.tmod U = Q ∧ Q * P = RP ∧ 0 < U ∧ -1000000000000000 ≤ X ∧ X ≤ 1000000000000000 ∧ -1000000000 < RP ∧ RP < 1000000000 ∧ unitN a s = X * 1000000000 + RP ∧ (0 < X → 0 ≤ RP) ∧ (X < 0 → RP ≤ 0) := by
 obtain ⟨⟨h1, h2⟩, h0, h9⟩ := validB_is h
 refine ⟨_, _, _, _, _, rfl, rfl, rfl, rfl, rfl, ?_⟩
 have hu := (pw_bd (show s.toNat ≤ 9 by omega)).1
 have hp := (pw_bd (show (9 - s).toNat ≤ 9 by omega)).1
 have hT := pw_nine h0 h9
 unfold unitN
 generalize pw s.toNat = U at *
 generalize pw (9 - s).toNat = P at *
 have hdm : U * a.tdiv U + a.tmod U = a := Int.mul_tdiv_add_tmod a U
 have hlt : a.tmod U < U := Int.tmod_lt_of_pos a (by omega)
 have hgt : -U < a.tmod U := by
  have := Int.tmod_lt_of_pos (-a) (show 0 < U by omega)
  rw [Int.neg_tmod] at this; omega
 have e : a * P = a.tdiv U * 1000000000 + a.tmod U * P := by
  rw [← hT]
  have := congrArg (· * P) hdm
  simp only [Int.add_mul] at this
  rw [← this, Int.mul_comm U, Int.mul_assoc]
 have hsg : (0 ≤ a → 0 ≤ a.tdiv U ∧ 0 ≤ a.tmod U) ∧ (a ≤ 0 → a.tdiv U ≤ 0 ∧ a.tmod U ≤ 0) := by
  constructor
  ·intro h; exact ⟨Int.tdiv_nonneg h (by omega), Int.tmod_nonneg _ h⟩
  ·intro h
   have p1 := Int.tdiv_nonneg (show 0 ≤ -a by omega) (show 0 ≤ U by omega)
   have p2 := Int.tmod_nonneg U (show 0 ≤ -a by omega)
   rw [Int.neg_tdiv] at p1; rw [Int.neg_tmod] at p2
   omega
 have hxa : a.tdiv U ≤ 1000000000000000 ∧ -1000000000000000 ≤ a.tdiv U := by
  have := Int.natAbs_tdiv_le_natAbs a U
  omega
 generalize a.tdiv U = X at *
 generalize a.tmod U = Q at *
 have r1 : Q * P ≤ (U - 1) * P := Int.mul_le_mul_of_nonneg_right (by omega) (by omega)
 have r2 : -((U - 1) * P) ≤ Q * P := by rw [← Int.neg_mul]; exact Int.mul_le_mul_of_nonneg_right (by omega) (by omega)
 have r3 : (U - 1) * P = 1000000000 - P := by rw [Int.sub_mul, hT, Int.one_mul]
 have r4 : 0 ≤ Q → 0 ≤ Q * P := fun h => Int.mul_nonneg h (by omega)
 have r5 : Q ≤ 0 → Q * P ≤ 0 := fun h => Int.mul_nonpos_of_nonpos_of_nonneg h (by omega)
 refine ⟨by omega, hxa.2, hxa.1, by omega, by omega, e, fun h => r4 ?_, fun h => r5 ?_⟩
 ·rcases Int.le_total 0 a with g | g
  ·exact (hsg.1 g).2
  ·have := (hsg.2 g).1; omega
 ·rcases Int.le_total 0 a with g | g
  ·have := (hsg.1 g).1; omega
  ·exact (hsg.2 g).2
def spFL (n s s9 U P X Q RP : Int) : List (Nat × AS.Fact) := [(9, AS.Fact.is (.int .i64 n)), (10, AS.Fact.is (.int .i64 U)), (11, AS.Fact.is (.int .i64 X)), (12, AS.Fact.is (.int .i64 n)), (13, AS.Fact.is (.int .i64 U)), (14, AS.Fact.is (.int .i64 Q)), (15, AS.Fact.is (.int .i64 s)), (16, AS.Fact.is (.int .i64 s9)), (17, AS.Fact.is (.int .i64 P)), (18, AS.Fact.is (.int .i64 RP)), (4, AS.Fact.is (.int .i64 X)), (5, AS.Fact.is (.int .i64 RP))]
set_option maxRecDepth 20000 in
set_option maxHeartbeats 1600000 in
theorem split_any (n s U P X Q RP : Int) (w : World) (h0 : 0 ≤ s) (h9 : s ≤ 9) (hu : pw s.toNat = U) (hp : pw (9 - s).toNat = P) (hx : n.tdiv U = X) (hq : n.tmod U = Q) (hr : Q * P = RP) (hu0 : 0 < U) (x1 : -1000000000000000 ≤ X) (x2 : X ≤ 1000000000000000) (r1 : -1000000000 < RP) (r2 : RP < 1000000000) :
  Calls Tryd.prog 29 #[.int .i64 n, .int .i64 s] w fun e w' => e = .returned (.tuple #[.int .i64 X, .int .i64 RP]) ∧ Below w.heap.size w w' := by
 have hs : ∀ w, Calls Tryd.prog 24 #[.int .i64 s] w fun e w' => e = .returned (.int .i64 U) ∧ w = w' := fun w => by rw [← hu]; exact power_at s h0 h9 w
 obtain ⟨s9, hs9⟩ : ∃ s9, 9 - s = s9 := ⟨_, rfl⟩
 have hp2 : ∀ w, Calls Tryd.prog 24 #[.int .i64 s9] w fun e w' => e = .returned (.int .i64 P) ∧ w = w' := fun w => by rw [← hp, hs9]; exact power_at s9 (by omega) (by omega) w
 have HS := Lib.hid hs
 have HP := Lib.hid hp2
 have hub : ¬ U = 0 := by omega
 have HU := Lib.hid hub
 have hxw : IntKind.i64.wrap (n.tdiv U) = X := by rw [hx, IntKind.wrap_i64]; omega
 have HX := Lib.hid hxw
 have HQ := Lib.hid hq
 have h9w : IntKind.i64.wrap (9 - s) = s9 := by rw [hs9, IntKind.wrap_i64]; omega
 have H9 := Lib.hid h9w
 have hrw : IntKind.i64.wrap (Q * P) = RP := by rw [hr, IntKind.wrap_i64]; omega
 have HRP := Lib.hid hrw
 clear hs hp2 hub hxw hq h9w hrw hs9 hu hp hx hr hu0
 go_enter Tryd.func29, Tryd.ntmps29
 go_upto_region 1 with (fail)
 go_upto_region 2 with (go_at_call 24; refine (HS.out _).mono ?_; rintro e w' ⟨rfl, rfl⟩)
 refine AS.region_facts (spFL n s s9 U P X Q RP) (DNo w) [[], [], [9, 10], [], [], [12, 13], [], [15], [16], [14, 17], [11], [18]] [] [[]] [0, 0, 0, 0, 0, 0, 0, 0, 0, 0, 0, 0] [] (fun u => by simp only [spFL, AS.temps, List.map_cons, List.map_nil, fillL, List.setIfInBounds_toArray, List.set_cons_zero, List.set_cons_succ]; rfl) (by kernel_rfl) (by kernel_rfl) (DNo.st w) (dc_drew (Below.refl _ _)) ?_ ?_
 ·refine AS.sc rfl rfl rfl ?_ ?_
  ·intro k_ u w_ hk hJ hF K hK
   clear hF
   go_simp
   exact hK.out _ _ (Below.refl _ _) (rfl) trivial
  refine AS.sc rfl rfl rfl ?_ ?_
  ·intro k_ u w_ hk hJ hF K hK
   clear hF
   go_simp
   exact hK.out _ _ (Below.refl _ _) (rfl) trivial
  refine AS.sc rfl rfl rfl ?_ ?_
  ·intro k_ u w_ hk hJ hF K hK
   have h9 : u 9 = .int .i64 n := AS.facts_get hF 9 (by simp)
   have h10 : u 10 = .int .i64 U := AS.facts_get hF 10 (by simp)
   clear hF
   simp only [h9, h10] at hK ⊢
   clear h9 h10
   have o0 := HU.out
   have o1 := HX.out
   go_simp
   exact hK.out _ _ (Below.refl _ _) rfl trivial
  refine AS.sc rfl rfl rfl ?_ ?_
  ·intro k_ u w_ hk hJ hF K hK
   clear hF
   go_simp
   exact hK.out _ _ (Below.refl _ _) (rfl) trivial
  refine AS.sc rfl rfl rfl ?_ ?_
  ·intro k_ u w_ hk hJ hF K hK
   clear hF
   go_simp
   exact hK.out _ _ (Below.refl _ _) (rfl) trivial
  refine AS.sc rfl rfl rfl ?_ ?_
  ·intro k_ u w_ hk hJ hF K hK
   have h12 : u 12 = .int .i64 n := AS.facts_get hF 12 (by simp)
   have h13 : u 13 = .int .i64 U := AS.facts_get hF 13 (by simp)
   clear hF
   simp only [h12, h13] at hK ⊢
   clear h12 h13
   have o0 := HU.out
   have o1 := HQ.out
   go_simp
   exact hK.out _ _ (Below.refl _ _) rfl trivial
  refine AS.sc rfl rfl rfl ?_ ?_
  ·intro k_ u w_ hk hJ hF K hK
   clear hF
   go_simp
   exact hK.out _ _ (Below.refl _ _) (rfl) trivial
  refine AS.sc rfl rfl rfl ?_ ?_
  ·intro k_ u w_ hk hJ hF K hK
   have h15 : u 15 = .int .i64 s := AS.facts_get hF 15 (by simp)
   clear hF
   simp only [h15] at hK ⊢
   clear h15
   have o0 := H9.out
   go_simp
   exact hK.out _ _ (Below.refl _ _) rfl trivial
  refine AS.sc rfl rfl rfl ?_ ?_
  ·intro k_ u w_ hk hJ hF K hK
   have h16 : u 16 = .int .i64 s9 := AS.facts_get hF 16 (by simp)
   clear hF
   simp only [h16] at hK ⊢
   clear h16
   go_simp
   refine (HP.out _).mono ?_
   rintro e w' ⟨rfl, rfl⟩
   exact hK.out _ _ (Below.refl _ _) rfl trivial
  refine AS.sc rfl rfl rfl ?_ ?_
  ·intro k_ u w_ hk hJ hF K hK
   have h14 : u 14 = .int .i64 Q := AS.facts_get hF 14 (by simp)
   have h17 : u 17 = .int .i64 P := AS.facts_get hF 17 (by simp)
   clear hF
   simp only [h14, h17] at hK ⊢
   clear h14 h17
   have o0 := HRP.out
   go_simp
   exact hK.out _ _ (Below.refl _ _) rfl trivial
  refine AS.sc rfl rfl rfl ?_ ?_
  ·intro k_ u w_ hk hJ hF K hK
   have h11 : u 11 = .int .i64 X := AS.facts_get hF 11 (by simp)
   clear hF
   simp only [h11] at hK ⊢
   clear h11
   go_simp
   exact hK.out _ _ (Below.refl _ _) rfl trivial
  refine AS.sc rfl rfl rfl ?_ ?_
  ·intro k_ u w_ hk hJ hF K hK
   have h18 : u 18 = .int .i64 RP := AS.facts_get hF 18 (by simp)
   clear hF
   simp only [h18] at hK ⊢
   clear h18
   go_simp
   exact hK.out _ _ (Below.refl _ _) rfl trivial
  exact AS.StepsOk.nil
 ·intro u W3 hJ9 hF
  have h4 : u 4 = .int .i64 X := AS.facts_get hF 4 (by simp [spFL, AS.temps])
  have h5 : u 5 = .int .i64 RP := AS.facts_get hF 5 (by simp [spFL, AS.temps])
  clear hF
  rw [show u 4 = _ from h4, show u 5 = _ from h5]
  clear h4 h5
  go_wp2_with fail
  go_ret2
  exact ⟨rfl, hJ9⟩
set_option maxHeartbeats 800000 in
theorem cmpOr_any (x y : Int) (b : Nat) (w : World) (hx : w.cell? ⟨b, 0, none⟩ = some (.int .i64 x)) (hy : w.cell? ⟨b, 1, none⟩ = some (.int .i64 y)) :
  Calls Tryd.prog 30 #[.slice (some ⟨b, 0, none⟩) 2 2] w fun e w' => e = .returned (.int .i64 (if x = 0 then y else x)) ∧ w = w' := by
 by_cases h0 : x = 0
 ·subst h0
  rw [if_pos rfl]
  by_cases h1 : y = 0
  ·subst h1
   go_enter Tryd.func30, Tryd.ntmps30
   go_wp2
   go_loop [8] (fun i => ∃ j : Nat, j ≤ 2 ∧ i = .int .i64 j) (fun i => 2 - (intOf i).toNat)
   case atStart => exact ⟨0, by omega, rfl⟩
   case round =>
    obtain ⟨j, hj, rfl⟩ := hrel
    have hc : j = 0 ∨ j = 1 ∨ j = 2 := by omega
    rcases hc with rfl | rfl | rfl
    ·go_wp2
     go_round
     case rel => exact ⟨1, by omega, rfl⟩
     case measure => simp [intOf]
    ·go_wp2
     go_round
     case rel => exact ⟨2, by omega, rfl⟩
     case measure => simp [intOf]
    ·go_wp2
     go_ret
     exact ⟨rfl, rfl⟩
  ·have h2 : (y != 0) = true := by simpa using h1
   clear h1
   go_enter Tryd.func30, Tryd.ntmps30
   go_wp2
   go_loop [8] (fun i => ∃ j : Nat, j ≤ 1 ∧ i = .int .i64 j) (fun i => 2 - (intOf i).toNat)
   case atStart => exact ⟨0, by omega, rfl⟩
   case round =>
    obtain ⟨j, hj, rfl⟩ := hrel
    have hc : j = 0 ∨ j = 1 := by omega
    rcases hc with rfl | rfl
    ·go_wp2
     go_round
     case rel => exact ⟨1, by omega, rfl⟩
     case measure => simp [intOf]
    ·go_wp2
     go_ret
     exact ⟨rfl, rfl⟩
 ·rw [if_neg h0]
  have h2 : (x != 0) = true := by simpa using h0
  clear h0
  go_enter Tryd.func30, Tryd.ntmps30
  go_wp2
  go_loop [8] (fun i => i = .int .i64 0) (fun i => 2 - (intOf i).toNat)
  case atStart => exact rfl
  case round =>
   subst hrel
   go_wp2
   go_ret
   exact ⟨rfl, rfl⟩
theorem cmpC_any (x y : Int) (w : World) : Calls Tryd.prog 31 #[.int .i64 x, .int .i64 y] w fun e w' => e = .returned (.int .i64 (cm x y)) ∧ w = w' :=
 (Tryd.cmp_Compare_int x y w).mono fun _ _ ⟨h1, h2⟩ => ⟨h1, h2.symm⟩
set_option maxHeartbeats 1600000 in
theorem dcompare_any (a sa b sb : Int) (w : World) : Calls Tryd.prog 14 #[.int .i64 a, .int .i64 sa, .int .i64 b, .int .i64 sb] w fun e w' => e = .returned (.tuple #[.int .i64 (compV a sa b sb), .int .i64 (compE a sa b sb)]) ∧ Below w.heap.size w w' := by
 unfold compV compE
 cases hv1 : validB a sa
 ·rw [if_neg (by simp), if_neg (by simp)]
  have hB := Below.refl w.heap.size w
  go_enter Tryd.func14, Tryd.ntmps14
  go_wp2_with (first | (go_at_call 23; refine (valid_any _ _ _).mono ?_; rintro e w' ⟨rfl, rfl⟩))
  go_ret2
  exact ⟨rfl, hB⟩
 ·cases hv2 : validB b sb
  ·rw [if_neg (by simp), if_neg (by simp)]
   have hB := Below.refl w.heap.size w
   go_enter Tryd.func14, Tryd.ntmps14
   go_wp2_with (first | (go_at_call 23; refine (valid_any _ _ _).mono ?_; rintro e w' ⟨rfl, rfl⟩))
   go_ret2
   exact ⟨rfl, hB⟩
  ·rw [Bool.and_self, if_pos rfl, if_pos rfl]
   obtain ⟨U, P, X, Q, RP, a1, a2, a3, a4, a5, a6, a7, a8, a9, a10, a11, a12, a13⟩ := split_facts hv1
   obtain ⟨U', P', X', Q', RP', b1, b2, b3, b4, b5, b6, b7, b8, b9, b10, b11, b12, b13⟩ := split_facts hv2
   have hcm := cm_trunc a11 b11 a9 a10 b9 b10 ⟨a12, a13⟩ ⟨b12, b13⟩
   have hs1 : ∀ w, Calls Tryd.prog 29 #[.int .i64 a, .int .i64 sa] w fun e w' => e = .returned (.tuple #[.int .i64 X, .int .i64 RP]) ∧ Below w.heap.size w w' := fun w => split_any a sa U P X Q RP w (validB_is hv1).2.1 (validB_is hv1).2.2 a1 a2 a3 a4 a5 a6 a7 a8 a9 a10
   have hs2 : ∀ w, Calls Tryd.prog 29 #[.int .i64 b, .int .i64 sb] w fun e w' => e = .returned (.tuple #[.int .i64 X', .int .i64 RP']) ∧ Below w.heap.size w w' := fun w => split_any b sb U' P' X' Q' RP' w (validB_is hv2).2.1 (validB_is hv2).2.2 b1 b2 b3 b4 b5 b6 b7 b8 b9 b10
   rw [← hcm]
   have HS1 := Lib.hid hs1
   have HS2 := Lib.hid hs2
   clear hs1 hs2 hcm a1 a2 a3 a4 a5 a6 a7 a8 a9 a10 a11 a12 a13 b1 b2 b3 b4 b5 b6 b7 b8 b9 b10 b11 b12 b13
   have hB := Below.refl w.heap.size w
   go_enter Tryd.func14, Tryd.ntmps14
   go_wp2_with (first | (go_at_call 23; refine (valid_any _ _ _).mono ?_; rintro e w' ⟨rfl, rfl⟩) | (go_at_call 29; first | ((with_reducible refine (HS1.out _).mono ?_); rintro e w' ⟨rfl, hb⟩; replace hB := below_more hB hb; clear hb) | ((with_reducible refine (HS2.out _).mono ?_); rintro e w' ⟨rfl, hb⟩; replace hB := below_more hB hb; clear hb)) | (go_at_call 31; refine (cmpC_any _ _ _).mono ?_; rintro e w' ⟨rfl, rfl⟩) | (go_at_call 30; refine (cmpOr_any (cm X X') (cm RP RP') _ _ (by simp) (by simp)).mono ?_; rintro e w' ⟨rfl, rfl⟩))
   all_goals
    go_ret2
    exact ⟨rfl, hB.alloc hB.size _⟩
theorem rnd_exact (m n p : Int) (hm0 : 0 ≤ m) (hm1 : m ≤ 5) (hp : 1 ≤ p) : rnd m (n * p) p = n := by
 have hc : m = 0 ∨ m = 1 ∨ m = 2 ∨ m = 3 ∨ m = 4 ∨ m = 5 := by omega
 have e1 : (p.natAbs : Int) = p := by omega
 have e2 : ((n * p).natAbs : Int) = (n.natAbs : Int) * p := by rw [Int.natAbs_mul]; simp [e1]
 have e3 : (n.natAbs : Int) * p / p = (n.natAbs : Int) := Int.mul_ediv_cancel _ (by omega)
 have e4 : (n.natAbs : Int) * p % p = 0 := Int.mul_emod_left _ _
 unfold rnd
 rw [e1, e2, e3, e4]
 have e5 : rqN m (negB (n * p) p) (n.natAbs : Int) 0 p = (n.natAbs : Int) := by
  rcases hc with rfl | rfl | rfl | rfl | rfl | rfl <;> simp [rqN, upN] <;> omega
 rw [e5]
 unfold sgn negB
 rw [show decide (p < 0) = false from decide_eq_false (by omega)]
 by_cases h : n < 0
 ·have h2 : n * p < 0 := Int.mul_neg_of_neg_of_pos h (by omega)
  rw [decide_eq_true h2]; simp; omega
 ·have h2 : 0 ≤ n * p := Int.mul_nonneg (by omega) (by omega)
  rw [decide_eq_false (by omega)]; simp; omega
theorem resc_back (n f t m : Int) (h : rescE n f t m = 0) (hl : ¬ t < f) : rescE (rescV n f t m) t f m = 0 ∧ rescV (rescV n f t m) t f m = n ∧ compE n f (rescV n f t m) t = 0 ∧ compV n f (rescV n f t m) t = 0 := by
 have hv : rescV n f t m = n * pw (t - f).toNat := by unfold rescV; rw [if_pos h, if_neg hl]
 rw [hv]
 unfold rescE at h
 by_cases h1 : (modeB m && scaleB t) = true
 ·rw [if_pos h1] at h
  by_cases h2 : validB n f = true
  ·rw [if_pos h2, if_neg hl] at h
   by_cases h3 : rangeB (n * pw (t - f).toNat) = true
   ·simp only [Bool.and_eq_true] at h1
    have hm := modeB_is h1.1
    have hs := scaleB_is h1.2
    have hn := validB_is h2
    have hr : -1000000000000000 ≤ n * pw (t - f).toNat ∧ n * pw (t - f).toNat ≤ 1000000000000000 := by simpa [rangeB] using h3
    have hval : validB (n * pw (t - f).toNat) t = true := by simp [validB, h1.2, hr.1, hr.2]
    have hsf : scaleB f = true := by simp [scaleB]; omega
    have hC : compE n f (n * pw (t - f).toNat) t = 0 := by unfold compE; rw [h2, hval]; rfl
    have hE2 : rescE (n * pw (t - f).toNat) t f m = 0 := by
     unfold rescE
     rw [h1.1, hsf, Bool.and_self, if_pos rfl, if_pos hval]
     by_cases hf : f < t
     ·rw [if_pos hf]
     ·obtain rfl : f = t := by omega
      rw [if_neg hf, Int.sub_self, show (0 : Int).toNat = 0 from rfl, pw_zero, Int.mul_one, Int.mul_one]
      rw [Int.sub_self, show (0 : Int).toNat = 0 from rfl, pw_zero, Int.mul_one] at h3
      rw [if_pos h3]
    refine ⟨hE2, ?_, hC, ?_⟩
    ·unfold rescV
     rw [if_pos hE2]
     by_cases hf : f < t
     ·rw [if_pos hf]
      exact rnd_exact m n _ hm.1 hm.2 (pw_bd (show (t - f).toNat ≤ 9 by omega)).1
     ·obtain rfl : f = t := by omega
      rw [if_neg hf, Int.sub_self, show (0 : Int).toNat = 0 from rfl, pw_zero, Int.mul_one, Int.mul_one]
    ·unfold compV
     rw [if_pos hC]
     have e : unitN (n * pw (t - f).toNat) t = unitN n f := by
      unfold unitN
      rw [Int.mul_assoc, ← pw_add, show (t - f).toNat + (9 - t).toNat = (9 - f).toNat by omega]
     rw [e]
     unfold cm
     rw [if_neg (by omega), if_neg (by omega)]
   ·rw [if_neg h3] at h; omega
  ·rw [if_neg h2] at h; omega
 ·rw [if_neg h1] at h; omega
set_option maxHeartbeats 3200000 in
theorem law_drescale (n f t m : Int) (w : World) (ht : DTab w.heap.size w) : Calls Tryd.prog 5 #[.int .i64 n, .agg #[.int .i64 f, .int .i64 t], .int .i64 m] w fun e w' => e = .returned (.bool true) ∧ Below w.heap.size w w' := by
 have hbk := resc_back n f t m
 have h1 := fun w => rescale_any n f t m w
 have h2 := fun w => rrescale_any n f t m w
 have h3 := fun w => rescale_any (rescV n f t m) t f m w
 have h4 := fun w => dcompare_any n f (rescV n f t m) t w
 have hB : Below w.heap.size w (w.alloc (.cells #[.int .i64 f, .int .i64 t] 33)) := (Below.refl _ _).alloc (Nat.le_refl _) _
 have K1 : Hid (C2 (w.alloc (.cells #[.int .i64 f, .int .i64 t] 33)) w.heap.size (.int .i64 f) (.int .i64 t)) := Lib.hid ⟨by simp, by simp, by simp⟩
 have HT := Lib.hid ht
 clear ht
 by_cases hE : rescE n f t m = 0
 ·by_cases hl : t < f
  ·rw [hE] at h1 h2
   generalize rescV n f t m = V at *
   have H1 := Lib.hid h1
   have H2 := Lib.hid h2
   clear h1 h2 h3 h4 hbk hE
   go_enter Tryd.func5, Tryd.ntmps5
   go_wp2_with (first | (go_at_call 9; refine (dawake_any _ (DTab.up HT.out hB)).mono ?_; rintro e w' ⟨rfl, hb⟩; replace hB := below_more hB hb; replace K1 := c2up K1 hb; clear hb; obtain ⟨p1, p2, p3⟩ := K1.out) | (go_at_call 12; first | ((with_reducible refine (H1.out _).mono ?_); rintro e w' ⟨rfl, hb⟩; replace hB := below_more hB hb; replace K1 := c2up K1 hb; clear hb; obtain ⟨p1, p2, p3⟩ := K1.out)) | (go_at_call 13; refine (H2.out _).mono ?_; rintro e w' ⟨rfl, hb⟩; replace hB := below_more hB hb; replace K1 := c2up K1 hb; clear hb; obtain ⟨p1, p2, p3⟩ := K1.out))
   go_ret
   exact ⟨rfl, hB⟩
  ·obtain ⟨b1, b2, b3, b4⟩ := hbk hE hl
   rw [hE] at h1 h2
   rw [b1, b2] at h3
   rw [b3, b4] at h4
   generalize rescV n f t m = V at *
   have hld : decide (t < f) = false := decide_eq_false hl
   have H1 := Lib.hid h1
   have H2 := Lib.hid h2
   have H3 := Lib.hid h3
   have H4 := Lib.hid h4
   clear h1 h2 h3 h4 hbk hE b1 b2 b3 b4 hl
   go_enter Tryd.func5, Tryd.ntmps5
   go_wp2_with (first | (go_at_call 9; refine (dawake_any _ (DTab.up HT.out hB)).mono ?_; rintro e w' ⟨rfl, hb⟩; replace hB := below_more hB hb; replace K1 := c2up K1 hb; clear hb; obtain ⟨p1, p2, p3⟩ := K1.out) | (go_at_call 12; first | ((with_reducible refine (H1.out _).mono ?_); rintro e w' ⟨rfl, hb⟩; replace hB := below_more hB hb; replace K1 := c2up K1 hb; clear hb; obtain ⟨p1, p2, p3⟩ := K1.out) | ((with_reducible refine (H3.out _).mono ?_); rintro e w' ⟨rfl, hb⟩; replace hB := below_more hB hb; replace K1 := c2up K1 hb; clear hb; obtain ⟨p1, p2, p3⟩ := K1.out)) | (go_at_call 13; refine (H2.out _).mono ?_; rintro e w' ⟨rfl, hb⟩; replace hB := below_more hB hb; replace K1 := c2up K1 hb; clear hb; obtain ⟨p1, p2, p3⟩ := K1.out) | (go_at_call 14; refine (H4.out _).mono ?_; rintro e w' ⟨rfl, hb⟩; replace hB := below_more hB hb; replace K1 := c2up K1 hb; clear hb; obtain ⟨p1, p2, p3⟩ := K1.out))
   go_ret
   exact ⟨rfl, hB⟩
 ·generalize rescV n f t m = V at *
  generalize rescE n f t m = E at *
  have hne : (E != 0) = true := by simpa using hE
  have H1 := Lib.hid h1
  have H2 := Lib.hid h2
  clear h1 h2 h3 h4 hbk hE
  go_enter Tryd.func5, Tryd.ntmps5
  go_wp2_with (first | (go_at_call 9; refine (dawake_any _ (DTab.up HT.out hB)).mono ?_; rintro e w' ⟨rfl, hb⟩; replace hB := below_more hB hb; replace K1 := c2up K1 hb; clear hb; obtain ⟨p1, p2, p3⟩ := K1.out) | (go_at_call 12; first | ((with_reducible refine (H1.out _).mono ?_); rintro e w' ⟨rfl, hb⟩; replace hB := below_more hB hb; replace K1 := c2up K1 hb; clear hb; obtain ⟨p1, p2, p3⟩ := K1.out)) | (go_at_call 13; refine (H2.out _).mono ?_; rintro e w' ⟨rfl, hb⟩; replace hB := below_more hB hb; replace K1 := c2up K1 hb; clear hb; obtain ⟨p1, p2, p3⟩ := K1.out))
  go_ret
  exact ⟨rfl, hB⟩
end Go.Proofs.YtgihmikeapbpkabDoor
