/- Contracts and the law of DecimalCompare, part 1: what was proved of each, callees first. -/
import Derived.LoopTactic
import Derived.Deep.QuietTactic
import Derived.BigQuiet
import Derived.Test.YtgihmikeapbpkabDoorB2
namespace Go.Proofs.YtgihmikeapbpkabDoor
open Go.RowKit
open AS (Keep NoInt)
theorem dret_int {k : IntKind} {a b : Int} (h : a = b) : Ending.returned (.int k a) = .returned (.int k b) := by rw [h]
theorem rvalid_any (n s : Int) (w : World) : Calls Tryd.prog 26 #[.int .i64 n, .int .i64 s] w fun e w' => e = .returned (.bool (validB n s)) ∧ w = w' := by
 unfold validB
 by_cases h1 : (-1000000000000000 : Int) ≤ n
 ·by_cases h2 : n ≤ 1000000000000000
  ·rw [decide_eq_true h1, decide_eq_true h2]
   unfold scaleB
   by_cases h4 : 0 ≤ s
   ·by_cases h5 : s ≤ 9
    ·rw [decide_eq_true h4, decide_eq_true h5]
     go_enter Tryd.func26, Tryd.ntmps26
     go_wp2
     go_ret
     exact ⟨rfl, rfl⟩
    ·rw [decide_eq_true h4, decide_eq_false h5]
     have h3 : decide (s ≤ 9) = false := decide_eq_false h5
     clear h5
     go_enter Tryd.func26, Tryd.ntmps26
     go_wp2
     go_ret
     exact ⟨rfl, rfl⟩
   ·rw [decide_eq_false h4]
    have h3 : decide (0 ≤ s) = false := decide_eq_false h4
    clear h4
    go_enter Tryd.func26, Tryd.ntmps26
    go_wp2
    go_ret
    exact ⟨rfl, rfl⟩
  ·rw [decide_eq_true h1, decide_eq_false h2]
   have h3 : decide (n ≤ 1000000000000000) = false := decide_eq_false h2
   clear h2
   go_enter Tryd.func26, Tryd.ntmps26
   go_wp2
   go_ret
   exact ⟨rfl, rfl⟩
 ·rw [decide_eq_false h1]
  have h3 : decide ((-1000000000000000 : Int) ≤ n) = false := decide_eq_false h1
  clear h1
  go_enter Tryd.func26, Tryd.ntmps26
  go_wp2
  go_ret
  exact ⟨rfl, rfl⟩
theorem size_any (a : Int) (w : World) (h1 : -9223372036854775807 ≤ a) (h2 : a ≤ 9223372036854775807) : Calls Tryd.prog 10 #[.int .i64 a] w fun e w' => e = .returned (.int .i64 (a.natAbs : Int)) ∧ w = w' := by
 by_cases h : a < 0
 ·rw [show (a.natAbs : Int) = -a by omega]
  go_enter Tryd.func10, Tryd.ntmps10
  go_wp2
  go_ret
  exact ⟨rfl, rfl⟩
 ·rw [show (a.natAbs : Int) = a by omega]
  go_enter Tryd.func10, Tryd.ntmps10
  go_wp2
  go_ret
  exact ⟨rfl, rfl⟩
def pw (k : Nat) : Int := ((10 ^ k : Nat) : Int)
theorem pw_succ (k : Nat) : pw (k + 1) = pw k * 10 := by unfold pw; rw [Nat.pow_succ]; omega
theorem pw_bd {k : Nat} (h : k ≤ 9) : 1 ≤ pw k ∧ pw k ≤ 1000000000 := by
 have h1 : 0 < 10 ^ k := Nat.pow_pos (by omega)
 have h2 : 10 ^ k ≤ 10 ^ 9 := Nat.pow_le_pow_right (by omega) h
 unfold pw; omega
set_option maxHeartbeats 800000 in
theorem power_any (k : Nat) (hk : k ≤ 9) (w : World) : Calls Tryd.prog 24 #[.int .i64 k] w fun e w' => e = .returned (.int .i64 (pw k)) ∧ w = w' := by
 go_enter Tryd.func24, Tryd.ntmps24
 go_wp2
 go_loop [3, 5] (fun p i => ∃ j : Nat, j ≤ k ∧ i = .int .i64 j ∧ p = .int .i64 (pw j)) (fun _ i => k - (intOf i).toNat)
 case atStart => exact ⟨0, Nat.zero_le _, rfl, rfl⟩
 case round =>
  obtain ⟨j, hj, rfl, rfl⟩ := hrel
  have hb := pw_bd (show j ≤ 9 by omega)
  obtain ⟨hb1, hb2⟩ := hb
  have hs := Lib.hid (pw_succ j)
  by_cases hlt : j < k
  ·go_wp2
   go_round
   case rel => exact ⟨j + 1, by omega, by go_num, by rw [hs.out]⟩
   case measure => simp [intOf]; omega
  ·obtain rfl : j = k := by omega
   have hkk : decide ((j : Int) < (j : Int)) = false := by simp
   go_wp2
   go_ret
   exact ⟨rfl, rfl⟩
set_option maxHeartbeats 800000 in
theorem rpower_any (k : Nat) (hk : k ≤ 9) (w : World) : Calls Tryd.prog 28 #[.int .i64 k] w fun e w' => e = .returned (.int .i64 (pw k)) ∧ w = w' := by
 go_enter Tryd.func28, Tryd.ntmps28
 go_wp2
 go_loop [3, 4] (fun p i => ∃ j : Nat, j ≤ k ∧ i = .int .i64 j ∧ p = .int .i64 (pw j)) (fun _ i => k - (intOf i).toNat)
 case atStart => exact ⟨0, Nat.zero_le _, rfl, rfl⟩
 case round =>
  obtain ⟨j, hj, rfl, rfl⟩ := hrel
  have hb := pw_bd (show j ≤ 9 by omega)
  obtain ⟨hb1, hb2⟩ := hb
  have hs := Lib.hid (pw_succ j)
  by_cases hlt : j < k
  ·go_wp2
   go_round
   case rel => exact ⟨j + 1, by omega, by go_num, by rw [hs.out]⟩
   case measure => simp [intOf]; omega
  ·obtain rfl : j = k := by omega
   have hkk : decide ((j : Int) < (j : Int)) = false := by simp
   go_wp2
   go_ret
   exact ⟨rfl, rfl⟩
theorem rnd_zero (m b : Int) (hm0 : 0 ≤ m) (hm1 : m ≤ 5) (hb : b ≠ 0) : rnd m 0 b = 0 := by
 have hc : m = 0 ∨ m = 1 ∨ m = 2 ∨ m = 3 ∨ m = 4 ∨ m = 5 := by omega
 have hd : (0 : Int) < (b.natAbs : Int) := by omega
 rcases hc with rfl | rfl | rfl | rfl | rfl | rfl <;> simp [rnd, rqN, upN, sgn] <;> omega
def rqFL (a b A B X R : Int) : List (Nat × AS.Fact) := [(21, AS.Fact.is (.int .i64 a)), (22, AS.Fact.is (.int .i64 A)), (23, AS.Fact.is (.int .i64 b)), (24, AS.Fact.is (.int .i64 B)), (25, AS.Fact.is (.int .i64 X)), (26, AS.Fact.is (.int .i64 a)), (27, AS.Fact.is (.int .i64 A)), (28, AS.Fact.is (.int .i64 b)), (29, AS.Fact.is (.int .i64 B)), (30, AS.Fact.is (.int .i64 R)), (31, AS.Fact.is (.int .i64 b)), (32, AS.Fact.is (.int .i64 B)), (8, AS.Fact.is (.int .i64 X)), (9, AS.Fact.is (.int .i64 R)), (10, AS.Fact.is (.int .i64 B))]
set_option maxRecDepth 20000 in
set_option maxHeartbeats 3200000 in
theorem rq_00 (m a b : Int) (w : World) (hm0 : 0 ≤ m) (hm1 : m ≤ 5) (h1 : 0 < a) (h2 : a ≤ 1000000000000000000) (h3 : 0 < b) (h4 : b ≤ 1000000000000000000) :
  Calls Tryd.prog 27 #[.int .i64 a, .int .i64 b, .int .i64 m] w fun e w' => e = .returned (.int .i64 (sgn false (rqN m false (a / b) (a % b) b))) ∧ Below w.heap.size w w' := by
 obtain ⟨z, hz⟩ : ∃ z, sgn false (rqN m false (a / b) (a % b) b) = z := ⟨_, rfl⟩
 rw [hz]
 have HZ := Lib.hid hz
 clear hz
 have q0 : 0 ≤ a / b := Int.ediv_nonneg (by omega) (by omega)
 have q2 : a / b ≤ 1000000000000000000 := Int.le_trans (Int.ediv_le_self _ (by omega)) h2
 have q3 : 0 ≤ a % b := Int.emod_nonneg _ (by omega)
 have q4 : a % b < b := Int.emod_lt_of_pos _ h3
 have hz : (b == 0) = false := by simp; omega
 have hza : (a == 0) = false := by simp; omega
 have hzb : (a != 0) = true := by simp; omega
 have hzc : (a == 0) = false := by simp; omega
 have h0 : 0 ≤ a := by omega
 have hs : ∀ w, Calls Tryd.prog 10 #[.int .i64 a] w fun e w' => e = .returned (.int .i64 a) ∧ w = w' := fun w => (size_any a w (by omega) (by omega)).mono fun _ _ h => by rw [show ((a : Int).natAbs : Int) = a by omega] at h; exact h
 have ht : ∀ w, Calls Tryd.prog 10 #[.int .i64 b] w fun e w' => e = .returned (.int .i64 b) ∧ w = w' := fun w => (size_any b w (by omega) (by omega)).mono fun _ _ h => by rw [show ((b : Int).natAbs : Int) = b by omega] at h; exact h
 have HS := Lib.hid hs
 have HT := Lib.hid ht
 clear hs ht
 have na : decide (a < 0) = false := decide_eq_false (by omega)
 have nb : decide (b < 0) = false := decide_eq_false (by omega)
 have hb0 : ¬ b = 0 := by omega
 have hdv : IntKind.i64.wrap ((a : Int).tdiv b) = a / b := by rw [Int.tdiv_eq_ediv_of_nonneg (by omega), IntKind.wrap_i64]; omega
 have hmd : (a : Int).tmod b = a % b := Int.tmod_eq_emod_of_nonneg (by omega)
 have HB0 := Lib.hid hb0
 have HDV := Lib.hid hdv
 have HMD := Lib.hid hmd
 have hw0 : IntKind.i64.wrap 0 = 0 := by rw [IntKind.wrap_i64]; rfl
 clear hb0 hdv hmd
 go_enter Tryd.func27, Tryd.ntmps27
 go_upto_region 2 with (fail)
 refine AS.region_facts (rqFL a b a b (a / b) (a % b)) (DNo w) [[], [21], [], [23], [22, 24], [], [26], [], [28], [27, 29], [], [31], [25], [30], [32]] [] [[]] [0, 0, 0, 0, 0, 0, 0, 0, 0, 0, 0, 0, 0, 0, 0] [] (fun u => by simp only [rqFL, AS.temps, List.map_cons, List.map_nil, fillL, List.setIfInBounds_toArray, List.set_cons_zero, List.set_cons_succ]; rfl) (by kernel_rfl) (by kernel_rfl) (DNo.st w) (dc_drew (Below.refl _ _)) ?_ ?_
 ·refine AS.sc rfl rfl rfl ?_ ?_
  ·intro k_ u w_ hk hJ hF K hK
   clear hF
   go_simp
   exact hK.out _ _ (Below.refl _ _) (rfl) trivial
  refine AS.sc rfl rfl rfl ?_ ?_
  ·intro k_ u w_ hk hJ hF K hK
   have h21 : u 21 = .int .i64 a := AS.facts_get hF 21 (by simp)
   clear hF
   simp only [h21] at hK ⊢
   clear h21
   go_simp
   refine (HS.out _).mono ?_
   rintro e w' ⟨rfl, rfl⟩
   exact hK.out _ _ (Below.refl _ _) rfl trivial
  refine AS.sc rfl rfl rfl ?_ ?_
  ·intro k_ u w_ hk hJ hF K hK
   clear hF
   go_simp
   exact hK.out _ _ (Below.refl _ _) (rfl) trivial
  refine AS.sc rfl rfl rfl ?_ ?_
  ·intro k_ u w_ hk hJ hF K hK
   have h23 : u 23 = .int .i64 b := AS.facts_get hF 23 (by simp)
   clear hF
   simp only [h23] at hK ⊢
   clear h23
   go_simp
   refine (HT.out _).mono ?_
   rintro e w' ⟨rfl, rfl⟩
   exact hK.out _ _ (Below.refl _ _) rfl trivial
  refine AS.sc rfl rfl rfl ?_ ?_
  ·intro k_ u w_ hk hJ hF K hK
   have h22 : u 22 = .int .i64 a := AS.facts_get hF 22 (by simp)
   have h24 : u 24 = .int .i64 b := AS.facts_get hF 24 (by simp)
   clear hF
   simp only [h22, h24] at hK ⊢
   clear h22 h24
   have o0 := HB0.out
   have o1 := HDV.out
   have o2 := HMD.out
   go_simp
   exact hK.out _ _ (Below.refl _ _) rfl trivial
  refine AS.sc rfl rfl rfl ?_ ?_
  ·intro k_ u w_ hk hJ hF K hK
   clear hF
   go_simp
   exact hK.out _ _ (Below.refl _ _) (rfl) trivial
  refine AS.sc rfl rfl rfl ?_ ?_
  ·intro k_ u w_ hk hJ hF K hK
   have h26 : u 26 = .int .i64 a := AS.facts_get hF 26 (by simp)
   clear hF
   simp only [h26] at hK ⊢
   clear h26
   go_simp
   refine (HS.out _).mono ?_
   rintro e w' ⟨rfl, rfl⟩
   exact hK.out _ _ (Below.refl _ _) rfl trivial
  refine AS.sc rfl rfl rfl ?_ ?_
  ·intro k_ u w_ hk hJ hF K hK
   clear hF
   go_simp
   exact hK.out _ _ (Below.refl _ _) (rfl) trivial
  refine AS.sc rfl rfl rfl ?_ ?_
  ·intro k_ u w_ hk hJ hF K hK
   have h28 : u 28 = .int .i64 b := AS.facts_get hF 28 (by simp)
   clear hF
   simp only [h28] at hK ⊢
   clear h28
   go_simp
   refine (HT.out _).mono ?_
   rintro e w' ⟨rfl, rfl⟩
   exact hK.out _ _ (Below.refl _ _) rfl trivial
  refine AS.sc rfl rfl rfl ?_ ?_
  ·intro k_ u w_ hk hJ hF K hK
   have h27 : u 27 = .int .i64 a := AS.facts_get hF 27 (by simp)
   have h29 : u 29 = .int .i64 b := AS.facts_get hF 29 (by simp)
   clear hF
   simp only [h27, h29] at hK ⊢
   clear h27 h29
   have o0 := HB0.out
   have o1 := HDV.out
   have o2 := HMD.out
   go_simp
   exact hK.out _ _ (Below.refl _ _) rfl trivial
  refine AS.sc rfl rfl rfl ?_ ?_
  ·intro k_ u w_ hk hJ hF K hK
   clear hF
   go_simp
   exact hK.out _ _ (Below.refl _ _) (rfl) trivial
  refine AS.sc rfl rfl rfl ?_ ?_
  ·intro k_ u w_ hk hJ hF K hK
   have h31 : u 31 = .int .i64 b := AS.facts_get hF 31 (by simp)
   clear hF
   simp only [h31] at hK ⊢
   clear h31
   go_simp
   refine (HT.out _).mono ?_
   rintro e w' ⟨rfl, rfl⟩
   exact hK.out _ _ (Below.refl _ _) rfl trivial
  refine AS.sc rfl rfl rfl ?_ ?_
  ·intro k_ u w_ hk hJ hF K hK
   have h25 : u 25 = .int .i64 (a / b) := AS.facts_get hF 25 (by simp)
   clear hF
   simp only [h25] at hK ⊢
   clear h25
   go_simp
   exact hK.out _ _ (Below.refl _ _) rfl trivial
  refine AS.sc rfl rfl rfl ?_ ?_
  ·intro k_ u w_ hk hJ hF K hK
   have h30 : u 30 = .int .i64 (a % b) := AS.facts_get hF 30 (by simp)
   clear hF
   simp only [h30] at hK ⊢
   clear h30
   go_simp
   exact hK.out _ _ (Below.refl _ _) rfl trivial
  refine AS.sc rfl rfl rfl ?_ ?_
  ·intro k_ u w_ hk hJ hF K hK
   have h32 : u 32 = .int .i64 b := AS.facts_get hF 32 (by simp)
   clear hF
   simp only [h32] at hK ⊢
   clear h32
   go_simp
   exact hK.out _ _ (Below.refl _ _) rfl trivial
  exact AS.StepsOk.nil
 ·intro u W3 hJ9 hF
  have h8 : u 8 = .int .i64 (a / b) := AS.facts_get hF 8 (by simp [rqFL, AS.temps])
  have h9 : u 9 = .int .i64 (a % b) := AS.facts_get hF 9 (by simp [rqFL, AS.temps])
  have h10 : u 10 = .int .i64 b := AS.facts_get hF 10 (by simp [rqFL, AS.temps])
  clear hF
  rw [show u 8 = _ from h8, show u 9 = _ from h9, show u 10 = _ from h10]
  clear h8 h9 h10
  generalize a / b = x at *
  generalize a % b = r at *
  have hc : m = 0 ∨ m = 1 ∨ m = 2 ∨ m = 3 ∨ m = 4 ∨ m = 5 := by omega
  clear hm0 hm1
  rcases hc with rfl | rfl | rfl | rfl | rfl | rfl
  ·by_cases hr : 2 * r < b
   all_goals
    go_wp2_with fail
    go_ret
    exact ⟨dret_int (by rw [← HZ.out]; simp [sgn, rqN, upN, hr] <;> omega), hJ9⟩
  ·by_cases hr : 2 * r = b
   ·have hr1 : b ≤ 2 * r := by omega
    by_cases hx : x % 2 = 0
    ·have hx1 : (x % 2 == 1) = false := by simp; omega
     have hr2 : (2 * r == b) = true := by simpa using hr
     have hr3 : decide (b < 2 * r) = false := decide_eq_false (by omega)
     have HR := Lib.hid hr
     have HX := Lib.hid hx
     clear hr hx
     go_wp2_with fail
     go_ret
     exact ⟨dret_int (by rw [← HZ.out]; simp [sgn, rqN, upN, HR.out, HX.out] <;> omega), hJ9⟩
    ·have hx1 : (x % 2 == 1) = true := by simp; omega
     have hr2 : (2 * r == b) = true := by simpa using hr
     have hr3 : decide (b < 2 * r) = false := decide_eq_false (by omega)
     have hr4 : r ≠ 0 := by omega
     have HR := Lib.hid hr
     have HX := Lib.hid hx
     have H4 := Lib.hid hr4
     clear hr hx hr4
     go_wp2_with fail
     go_ret
     exact ⟨dret_int (by rw [← HZ.out]; simp [sgn, rqN, upN, HR.out, HX.out, H4.out] <;> omega), hJ9⟩
   ·have hr2 : (2 * r == b) = false := by simpa using hr
    have HR := Lib.hid hr
    clear hr
    by_cases hl : b < 2 * r
    ·have hr4 : r ≠ 0 := by omega
     have hl2 : ¬ 2 * r < b := by omega
     have H4 := Lib.hid hr4
     have HL := Lib.hid hl2
     clear hr4 hl2
     go_wp2_with fail
     go_ret
     exact ⟨dret_int (by rw [← HZ.out]; simp [sgn, rqN, upN, HR.out, HL.out, H4.out] <;> omega), hJ9⟩
    ·have hl1 : decide (b < 2 * r) = false := decide_eq_false hl
     have hl2 : 2 * r < b := by have := HR.out; omega
     have HL := Lib.hid hl2
     clear hl hl2
     go_wp2_with fail
     go_ret
     exact ⟨dret_int (by rw [← HZ.out]; simp [sgn, rqN, upN, HR.out, HL.out] <;> omega), hJ9⟩
  ·go_wp2_with fail
   go_ret
   exact ⟨dret_int (by rw [← HZ.out]; simp [sgn, rqN, upN]), hJ9⟩
  ·by_cases hr : r = 0
   ·subst hr
    go_wp2_with fail
    go_ret
    exact ⟨dret_int (by rw [← HZ.out]; simp [sgn, rqN, upN]), hJ9⟩
   ·have hr1 : 0 < r := by omega
    have HR := Lib.hid hr
    clear hr
    go_wp2_with fail
    go_ret
    exact ⟨dret_int (by rw [← HZ.out]; simp [sgn, rqN, upN, HR.out] <;> omega), hJ9⟩
  ·by_cases hr : r = 0
   ·subst hr
    go_wp2_with fail
    go_ret
    exact ⟨dret_int (by rw [← HZ.out]; simp [sgn, rqN, upN]), hJ9⟩
   ·have hr1 : 0 < r := by omega
    have HR := Lib.hid hr
    clear hr
    go_wp2_with fail
    go_ret
    exact ⟨dret_int (by rw [← HZ.out]; simp [sgn, rqN, upN, HR.out] <;> omega), hJ9⟩
  ·by_cases hr : r = 0
   ·subst hr
    go_wp2_with fail
    go_ret
    exact ⟨dret_int (by rw [← HZ.out]; simp [sgn, rqN, upN]), hJ9⟩
   ·have hr1 : 0 < r := by omega
    have HR := Lib.hid hr
    clear hr
    go_wp2_with fail
    go_ret
    exact ⟨dret_int (by rw [← HZ.out]; simp [sgn, rqN, upN, HR.out] <;> omega), hJ9⟩
set_option maxRecDepth 20000 in
set_option maxHeartbeats 3200000 in
theorem rq_01 (m a b : Int) (w : World) (hm0 : 0 ≤ m) (hm1 : m ≤ 5) (h1 : 0 < a) (h2 : a ≤ 1000000000000000000) (h3 : 0 < b) (h4 : b ≤ 1000000000000000000) :
  Calls Tryd.prog 27 #[.int .i64 a, .int .i64 (-b), .int .i64 m] w fun e w' => e = .returned (.int .i64 (sgn true (rqN m true (a / b) (a % b) b))) ∧ Below w.heap.size w w' := by
 obtain ⟨z, hz⟩ : ∃ z, sgn true (rqN m true (a / b) (a % b) b) = z := ⟨_, rfl⟩
 rw [hz]
 have HZ := Lib.hid hz
 clear hz
 have q0 : 0 ≤ a / b := Int.ediv_nonneg (by omega) (by omega)
 have q2 : a / b ≤ 1000000000000000000 := Int.le_trans (Int.ediv_le_self _ (by omega)) h2
 have q3 : 0 ≤ a % b := Int.emod_nonneg _ (by omega)
 have q4 : a % b < b := Int.emod_lt_of_pos _ h3
 have hz : (b == 0) = false := by simp; omega
 have hza : (a == 0) = false := by simp; omega
 have hzb : (a != 0) = true := by simp; omega
 have hzc : (a == 0) = false := by simp; omega
 have h0 : 0 ≤ a := by omega
 have hs : ∀ w, Calls Tryd.prog 10 #[.int .i64 a] w fun e w' => e = .returned (.int .i64 a) ∧ w = w' := fun w => (size_any a w (by omega) (by omega)).mono fun _ _ h => by rw [show ((a : Int).natAbs : Int) = a by omega] at h; exact h
 have ht : ∀ w, Calls Tryd.prog 10 #[.int .i64 (-b)] w fun e w' => e = .returned (.int .i64 b) ∧ w = w' := fun w => (size_any (-b) w (by omega) (by omega)).mono fun _ _ h => by rw [show (((-b) : Int).natAbs : Int) = b by omega] at h; exact h
 have HS := Lib.hid hs
 have HT := Lib.hid ht
 clear hs ht
 have na : decide (a < 0) = false := decide_eq_false (by omega)
 have hb0 : ¬ b = 0 := by omega
 have hdv : IntKind.i64.wrap ((a : Int).tdiv b) = a / b := by rw [Int.tdiv_eq_ediv_of_nonneg (by omega), IntKind.wrap_i64]; omega
 have hmd : (a : Int).tmod b = a % b := Int.tmod_eq_emod_of_nonneg (by omega)
 have HB0 := Lib.hid hb0
 have HDV := Lib.hid hdv
 have HMD := Lib.hid hmd
 have hw0 : IntKind.i64.wrap 0 = 0 := by rw [IntKind.wrap_i64]; rfl
 clear hb0 hdv hmd
 go_enter Tryd.func27, Tryd.ntmps27
 go_upto_region 2 with (fail)
 refine AS.region_facts (rqFL a (-b) a b (a / b) (a % b)) (DNo w) [[], [21], [], [23], [22, 24], [], [26], [], [28], [27, 29], [], [31], [25], [30], [32]] [] [[]] [0, 0, 0, 0, 0, 0, 0, 0, 0, 0, 0, 0, 0, 0, 0] [] (fun u => by simp only [rqFL, AS.temps, List.map_cons, List.map_nil, fillL, List.setIfInBounds_toArray, List.set_cons_zero, List.set_cons_succ]; rfl) (by kernel_rfl) (by kernel_rfl) (DNo.st w) (dc_drew (Below.refl _ _)) ?_ ?_
 ·refine AS.sc rfl rfl rfl ?_ ?_
  ·intro k_ u w_ hk hJ hF K hK
   clear hF
   go_simp
   exact hK.out _ _ (Below.refl _ _) (rfl) trivial
  refine AS.sc rfl rfl rfl ?_ ?_
  ·intro k_ u w_ hk hJ hF K hK
   have h21 : u 21 = .int .i64 a := AS.facts_get hF 21 (by simp)
   clear hF
   simp only [h21] at hK ⊢
   clear h21
   go_simp
   refine (HS.out _).mono ?_
   rintro e w' ⟨rfl, rfl⟩
   exact hK.out _ _ (Below.refl _ _) rfl trivial
  refine AS.sc rfl rfl rfl ?_ ?_
  ·intro k_ u w_ hk hJ hF K hK
   clear hF
   go_simp
   exact hK.out _ _ (Below.refl _ _) (rfl) trivial
  refine AS.sc rfl rfl rfl ?_ ?_
  ·intro k_ u w_ hk hJ hF K hK
   have h23 : u 23 = .int .i64 (-b) := AS.facts_get hF 23 (by simp)
   clear hF
   simp only [h23] at hK ⊢
   clear h23
   go_simp
   refine (HT.out _).mono ?_
   rintro e w' ⟨rfl, rfl⟩
   exact hK.out _ _ (Below.refl _ _) rfl trivial
  refine AS.sc rfl rfl rfl ?_ ?_
  ·intro k_ u w_ hk hJ hF K hK
   have h22 : u 22 = .int .i64 a := AS.facts_get hF 22 (by simp)
   have h24 : u 24 = .int .i64 b := AS.facts_get hF 24 (by simp)
   clear hF
   simp only [h22, h24] at hK ⊢
   clear h22 h24
   have o0 := HB0.out
   have o1 := HDV.out
   have o2 := HMD.out
   go_simp
   exact hK.out _ _ (Below.refl _ _) rfl trivial
  refine AS.sc rfl rfl rfl ?_ ?_
  ·intro k_ u w_ hk hJ hF K hK
   clear hF
   go_simp
   exact hK.out _ _ (Below.refl _ _) (rfl) trivial
  refine AS.sc rfl rfl rfl ?_ ?_
  ·intro k_ u w_ hk hJ hF K hK
   have h26 : u 26 = .int .i64 a := AS.facts_get hF 26 (by simp)
   clear hF
   simp only [h26] at hK ⊢
   clear h26
   go_simp
   refine (HS.out _).mono ?_
   rintro e w' ⟨rfl, rfl⟩
   exact hK.out _ _ (Below.refl _ _) rfl trivial
  refine AS.sc rfl rfl rfl ?_ ?_
  ·intro k_ u w_ hk hJ hF K hK
   clear hF
   go_simp
   exact hK.out _ _ (Below.refl _ _) (rfl) trivial
  refine AS.sc rfl rfl rfl ?_ ?_
  ·intro k_ u w_ hk hJ hF K hK
   have h28 : u 28 = .int .i64 (-b) := AS.facts_get hF 28 (by simp)
   clear hF
   simp only [h28] at hK ⊢
   clear h28
   go_simp
   refine (HT.out _).mono ?_
   rintro e w' ⟨rfl, rfl⟩
   exact hK.out _ _ (Below.refl _ _) rfl trivial
  refine AS.sc rfl rfl rfl ?_ ?_
  ·intro k_ u w_ hk hJ hF K hK
   have h27 : u 27 = .int .i64 a := AS.facts_get hF 27 (by simp)
   have h29 : u 29 = .int .i64 b := AS.facts_get hF 29 (by simp)
   clear hF
   simp only [h27, h29] at hK ⊢
   clear h27 h29
   have o0 := HB0.out
   have o1 := HDV.out
   have o2 := HMD.out
   go_simp
   exact hK.out _ _ (Below.refl _ _) rfl trivial
  refine AS.sc rfl rfl rfl ?_ ?_
  ·intro k_ u w_ hk hJ hF K hK
   clear hF
   go_simp
   exact hK.out _ _ (Below.refl _ _) (rfl) trivial
  refine AS.sc rfl rfl rfl ?_ ?_
  ·intro k_ u w_ hk hJ hF K hK
   have h31 : u 31 = .int .i64 (-b) := AS.facts_get hF 31 (by simp)
   clear hF
   simp only [h31] at hK ⊢
   clear h31
   go_simp
   refine (HT.out _).mono ?_
   rintro e w' ⟨rfl, rfl⟩
   exact hK.out _ _ (Below.refl _ _) rfl trivial
  refine AS.sc rfl rfl rfl ?_ ?_
  ·intro k_ u w_ hk hJ hF K hK
   have h25 : u 25 = .int .i64 (a / b) := AS.facts_get hF 25 (by simp)
   clear hF
   simp only [h25] at hK ⊢
   clear h25
   go_simp
   exact hK.out _ _ (Below.refl _ _) rfl trivial
  refine AS.sc rfl rfl rfl ?_ ?_
  ·intro k_ u w_ hk hJ hF K hK
   have h30 : u 30 = .int .i64 (a % b) := AS.facts_get hF 30 (by simp)
   clear hF
   simp only [h30] at hK ⊢
   clear h30
   go_simp
   exact hK.out _ _ (Below.refl _ _) rfl trivial
  refine AS.sc rfl rfl rfl ?_ ?_
  ·intro k_ u w_ hk hJ hF K hK
   have h32 : u 32 = .int .i64 b := AS.facts_get hF 32 (by simp)
   clear hF
   simp only [h32] at hK ⊢
   clear h32
   go_simp
   exact hK.out _ _ (Below.refl _ _) rfl trivial
  exact AS.StepsOk.nil
 ·intro u W3 hJ9 hF
  have h8 : u 8 = .int .i64 (a / b) := AS.facts_get hF 8 (by simp [rqFL, AS.temps])
  have h9 : u 9 = .int .i64 (a % b) := AS.facts_get hF 9 (by simp [rqFL, AS.temps])
  have h10 : u 10 = .int .i64 b := AS.facts_get hF 10 (by simp [rqFL, AS.temps])
  clear hF
  rw [show u 8 = _ from h8, show u 9 = _ from h9, show u 10 = _ from h10]
  clear h8 h9 h10
  generalize a / b = x at *
  generalize a % b = r at *
  have hc : m = 0 ∨ m = 1 ∨ m = 2 ∨ m = 3 ∨ m = 4 ∨ m = 5 := by omega
  clear hm0 hm1
  rcases hc with rfl | rfl | rfl | rfl | rfl | rfl
  ·by_cases hr : 2 * r < b
   all_goals
    go_wp2_with fail
    go_ret
    exact ⟨dret_int (by rw [← HZ.out]; simp [sgn, rqN, upN, hr] <;> omega), hJ9⟩
  ·by_cases hr : 2 * r = b
   ·have hr1 : b ≤ 2 * r := by omega
    by_cases hx : x % 2 = 0
    ·have hx1 : (x % 2 == 1) = false := by simp; omega
     have hr2 : (2 * r == b) = true := by simpa using hr
     have hr3 : decide (b < 2 * r) = false := decide_eq_false (by omega)
     have HR := Lib.hid hr
     have HX := Lib.hid hx
     clear hr hx
     go_wp2_with fail
     go_ret
     exact ⟨dret_int (by rw [← HZ.out]; simp [sgn, rqN, upN, HR.out, HX.out] <;> omega), hJ9⟩
    ·have hx1 : (x % 2 == 1) = true := by simp; omega
     have hr2 : (2 * r == b) = true := by simpa using hr
     have hr3 : decide (b < 2 * r) = false := decide_eq_false (by omega)
     have hr4 : r ≠ 0 := by omega
     have HR := Lib.hid hr
     have HX := Lib.hid hx
     have H4 := Lib.hid hr4
     clear hr hx hr4
     go_wp2_with fail
     go_ret
     exact ⟨dret_int (by rw [← HZ.out]; simp [sgn, rqN, upN, HR.out, HX.out, H4.out] <;> omega), hJ9⟩
   ·have hr2 : (2 * r == b) = false := by simpa using hr
    have HR := Lib.hid hr
    clear hr
    by_cases hl : b < 2 * r
    ·have hr4 : r ≠ 0 := by omega
     have hl2 : ¬ 2 * r < b := by omega
     have H4 := Lib.hid hr4
     have HL := Lib.hid hl2
     clear hr4 hl2
     go_wp2_with fail
     go_ret
     exact ⟨dret_int (by rw [← HZ.out]; simp [sgn, rqN, upN, HR.out, HL.out, H4.out] <;> omega), hJ9⟩
    ·have hl1 : decide (b < 2 * r) = false := decide_eq_false hl
     have hl2 : 2 * r < b := by have := HR.out; omega
     have HL := Lib.hid hl2
     clear hl hl2
     go_wp2_with fail
     go_ret
     exact ⟨dret_int (by rw [← HZ.out]; simp [sgn, rqN, upN, HR.out, HL.out] <;> omega), hJ9⟩
  ·go_wp2_with fail
   go_ret
   exact ⟨dret_int (by rw [← HZ.out]; simp [sgn, rqN, upN]), hJ9⟩
  ·by_cases hr : r = 0
   ·subst hr
    go_wp2_with fail
    go_ret
    exact ⟨dret_int (by rw [← HZ.out]; simp [sgn, rqN, upN]), hJ9⟩
   ·have hr1 : 0 < r := by omega
    have HR := Lib.hid hr
    clear hr
    go_wp2_with fail
    go_ret
    exact ⟨dret_int (by rw [← HZ.out]; simp [sgn, rqN, upN, HR.out] <;> omega), hJ9⟩
  ·by_cases hr : r = 0
   ·subst hr
    go_wp2_with fail
    go_ret
    exact ⟨dret_int (by rw [← HZ.out]; simp [sgn, rqN, upN]), hJ9⟩
   ·have hr1 : 0 < r := by omega
    have HR := Lib.hid hr
    clear hr
    go_wp2_with fail
    go_ret
    exact ⟨dret_int (by rw [← HZ.out]; simp [sgn, rqN, upN, HR.out] <;> omega), hJ9⟩
  ·by_cases hr : r = 0
   ·subst hr
    go_wp2_with fail
    go_ret
    exact ⟨dret_int (by rw [← HZ.out]; simp [sgn, rqN, upN]), hJ9⟩
   ·have hr1 : 0 < r := by omega
    have HR := Lib.hid hr
    clear hr
    go_wp2_with fail
    go_ret
    exact ⟨dret_int (by rw [← HZ.out]; simp [sgn, rqN, upN, HR.out] <;> omega), hJ9⟩
set_option maxRecDepth 20000 in
set_option maxHeartbeats 3200000 in
theorem rq_10 (m a b : Int) (w : World) (hm0 : 0 ≤ m) (hm1 : m ≤ 5) (h1 : 0 < a) (h2 : a ≤ 1000000000000000000) (h3 : 0 < b) (h4 : b ≤ 1000000000000000000) :
  Calls Tryd.prog 27 #[.int .i64 (-a), .int .i64 b, .int .i64 m] w fun e w' => e = .returned (.int .i64 (sgn true (rqN m true (a / b) (a % b) b))) ∧ Below w.heap.size w w' := by
 obtain ⟨z, hz⟩ : ∃ z, sgn true (rqN m true (a / b) (a % b) b) = z := ⟨_, rfl⟩
 rw [hz]
 have HZ := Lib.hid hz
 clear hz
 have q0 : 0 ≤ a / b := Int.ediv_nonneg (by omega) (by omega)
 have q2 : a / b ≤ 1000000000000000000 := Int.le_trans (Int.ediv_le_self _ (by omega)) h2
 have q3 : 0 ≤ a % b := Int.emod_nonneg _ (by omega)
 have q4 : a % b < b := Int.emod_lt_of_pos _ h3
 have hz : (b == 0) = false := by simp; omega
 have hza : (a == 0) = false := by simp; omega
 have hzb : ((-a) != 0) = true := by simp; omega
 have hzc : ((-a) == 0) = false := by simp; omega
 have h0 : 0 ≤ a := by omega
 have hs : ∀ w, Calls Tryd.prog 10 #[.int .i64 (-a)] w fun e w' => e = .returned (.int .i64 a) ∧ w = w' := fun w => (size_any (-a) w (by omega) (by omega)).mono fun _ _ h => by rw [show (((-a) : Int).natAbs : Int) = a by omega] at h; exact h
 have ht : ∀ w, Calls Tryd.prog 10 #[.int .i64 b] w fun e w' => e = .returned (.int .i64 b) ∧ w = w' := fun w => (size_any b w (by omega) (by omega)).mono fun _ _ h => by rw [show ((b : Int).natAbs : Int) = b by omega] at h; exact h
 have HS := Lib.hid hs
 have HT := Lib.hid ht
 clear hs ht
 have nb : decide (b < 0) = false := decide_eq_false (by omega)
 have hb0 : ¬ b = 0 := by omega
 have hdv : IntKind.i64.wrap ((a : Int).tdiv b) = a / b := by rw [Int.tdiv_eq_ediv_of_nonneg (by omega), IntKind.wrap_i64]; omega
 have hmd : (a : Int).tmod b = a % b := Int.tmod_eq_emod_of_nonneg (by omega)
 have HB0 := Lib.hid hb0
 have HDV := Lib.hid hdv
 have HMD := Lib.hid hmd
 have hw0 : IntKind.i64.wrap 0 = 0 := by rw [IntKind.wrap_i64]; rfl
 clear hb0 hdv hmd
 go_enter Tryd.func27, Tryd.ntmps27
 go_upto_region 2 with (fail)
 refine AS.region_facts (rqFL (-a) b a b (a / b) (a % b)) (DNo w) [[], [21], [], [23], [22, 24], [], [26], [], [28], [27, 29], [], [31], [25], [30], [32]] [] [[]] [0, 0, 0, 0, 0, 0, 0, 0, 0, 0, 0, 0, 0, 0, 0] [] (fun u => by simp only [rqFL, AS.temps, List.map_cons, List.map_nil, fillL, List.setIfInBounds_toArray, List.set_cons_zero, List.set_cons_succ]; rfl) (by kernel_rfl) (by kernel_rfl) (DNo.st w) (dc_drew (Below.refl _ _)) ?_ ?_
 ·refine AS.sc rfl rfl rfl ?_ ?_
  ·intro k_ u w_ hk hJ hF K hK
   clear hF
   go_simp
   exact hK.out _ _ (Below.refl _ _) (rfl) trivial
  refine AS.sc rfl rfl rfl ?_ ?_
  ·intro k_ u w_ hk hJ hF K hK
   have h21 : u 21 = .int .i64 (-a) := AS.facts_get hF 21 (by simp)
   clear hF
   simp only [h21] at hK ⊢
   clear h21
   go_simp
   refine (HS.out _).mono ?_
   rintro e w' ⟨rfl, rfl⟩
   exact hK.out _ _ (Below.refl _ _) rfl trivial
  refine AS.sc rfl rfl rfl ?_ ?_
  ·intro k_ u w_ hk hJ hF K hK
   clear hF
   go_simp
   exact hK.out _ _ (Below.refl _ _) (rfl) trivial
  refine AS.sc rfl rfl rfl ?_ ?_
  ·intro k_ u w_ hk hJ hF K hK
   have h23 : u 23 = .int .i64 b := AS.facts_get hF 23 (by simp)
   clear hF
   simp only [h23] at hK ⊢
   clear h23
   go_simp
   refine (HT.out _).mono ?_
   rintro e w' ⟨rfl, rfl⟩
   exact hK.out _ _ (Below.refl _ _) rfl trivial
  refine AS.sc rfl rfl rfl ?_ ?_
  ·intro k_ u w_ hk hJ hF K hK
   have h22 : u 22 = .int .i64 a := AS.facts_get hF 22 (by simp)
   have h24 : u 24 = .int .i64 b := AS.facts_get hF 24 (by simp)
   clear hF
   simp only [h22, h24] at hK ⊢
   clear h22 h24
   have o0 := HB0.out
   have o1 := HDV.out
   have o2 := HMD.out
   go_simp
   exact hK.out _ _ (Below.refl _ _) rfl trivial
  refine AS.sc rfl rfl rfl ?_ ?_
  ·intro k_ u w_ hk hJ hF K hK
   clear hF
   go_simp
   exact hK.out _ _ (Below.refl _ _) (rfl) trivial
  refine AS.sc rfl rfl rfl ?_ ?_
  ·intro k_ u w_ hk hJ hF K hK
   have h26 : u 26 = .int .i64 (-a) := AS.facts_get hF 26 (by simp)
   clear hF
   simp only [h26] at hK ⊢
   clear h26
   go_simp
   refine (HS.out _).mono ?_
   rintro e w' ⟨rfl, rfl⟩
   exact hK.out _ _ (Below.refl _ _) rfl trivial
  refine AS.sc rfl rfl rfl ?_ ?_
  ·intro k_ u w_ hk hJ hF K hK
   clear hF
   go_simp
   exact hK.out _ _ (Below.refl _ _) (rfl) trivial
  refine AS.sc rfl rfl rfl ?_ ?_
  ·intro k_ u w_ hk hJ hF K hK
   have h28 : u 28 = .int .i64 b := AS.facts_get hF 28 (by simp)
   clear hF
   simp only [h28] at hK ⊢
   clear h28
   go_simp
   refine (HT.out _).mono ?_
   rintro e w' ⟨rfl, rfl⟩
   exact hK.out _ _ (Below.refl _ _) rfl trivial
  refine AS.sc rfl rfl rfl ?_ ?_
  ·intro k_ u w_ hk hJ hF K hK
   have h27 : u 27 = .int .i64 a := AS.facts_get hF 27 (by simp)
   have h29 : u 29 = .int .i64 b := AS.facts_get hF 29 (by simp)
   clear hF
   simp only [h27, h29] at hK ⊢
   clear h27 h29
   have o0 := HB0.out
   have o1 := HDV.out
   have o2 := HMD.out
   go_simp
   exact hK.out _ _ (Below.refl _ _) rfl trivial
  refine AS.sc rfl rfl rfl ?_ ?_
  ·intro k_ u w_ hk hJ hF K hK
   clear hF
   go_simp
   exact hK.out _ _ (Below.refl _ _) (rfl) trivial
  refine AS.sc rfl rfl rfl ?_ ?_
  ·intro k_ u w_ hk hJ hF K hK
   have h31 : u 31 = .int .i64 b := AS.facts_get hF 31 (by simp)
   clear hF
   simp only [h31] at hK ⊢
   clear h31
   go_simp
   refine (HT.out _).mono ?_
   rintro e w' ⟨rfl, rfl⟩
   exact hK.out _ _ (Below.refl _ _) rfl trivial
  refine AS.sc rfl rfl rfl ?_ ?_
  ·intro k_ u w_ hk hJ hF K hK
   have h25 : u 25 = .int .i64 (a / b) := AS.facts_get hF 25 (by simp)
   clear hF
   simp only [h25] at hK ⊢
   clear h25
   go_simp
   exact hK.out _ _ (Below.refl _ _) rfl trivial
  refine AS.sc rfl rfl rfl ?_ ?_
  ·intro k_ u w_ hk hJ hF K hK
   have h30 : u 30 = .int .i64 (a % b) := AS.facts_get hF 30 (by simp)
   clear hF
   simp only [h30] at hK ⊢
   clear h30
   go_simp
   exact hK.out _ _ (Below.refl _ _) rfl trivial
  refine AS.sc rfl rfl rfl ?_ ?_
  ·intro k_ u w_ hk hJ hF K hK
   have h32 : u 32 = .int .i64 b := AS.facts_get hF 32 (by simp)
   clear hF
   simp only [h32] at hK ⊢
   clear h32
   go_simp
   exact hK.out _ _ (Below.refl _ _) rfl trivial
  exact AS.StepsOk.nil
 ·intro u W3 hJ9 hF
  have h8 : u 8 = .int .i64 (a / b) := AS.facts_get hF 8 (by simp [rqFL, AS.temps])
  have h9 : u 9 = .int .i64 (a % b) := AS.facts_get hF 9 (by simp [rqFL, AS.temps])
  have h10 : u 10 = .int .i64 b := AS.facts_get hF 10 (by simp [rqFL, AS.temps])
  clear hF
  rw [show u 8 = _ from h8, show u 9 = _ from h9, show u 10 = _ from h10]
  clear h8 h9 h10
  generalize a / b = x at *
  generalize a % b = r at *
  have hc : m = 0 ∨ m = 1 ∨ m = 2 ∨ m = 3 ∨ m = 4 ∨ m = 5 := by omega
  clear hm0 hm1
  rcases hc with rfl | rfl | rfl | rfl | rfl | rfl
  ·by_cases hr : 2 * r < b
   all_goals
    go_wp2_with fail
    go_ret
    exact ⟨dret_int (by rw [← HZ.out]; simp [sgn, rqN, upN, hr] <;> omega), hJ9⟩
  ·by_cases hr : 2 * r = b
   ·have hr1 : b ≤ 2 * r := by omega
    by_cases hx : x % 2 = 0
    ·have hx1 : (x % 2 == 1) = false := by simp; omega
     have hr2 : (2 * r == b) = true := by simpa using hr
     have hr3 : decide (b < 2 * r) = false := decide_eq_false (by omega)
     have HR := Lib.hid hr
     have HX := Lib.hid hx
     clear hr hx
     go_wp2_with fail
     go_ret
     exact ⟨dret_int (by rw [← HZ.out]; simp [sgn, rqN, upN, HR.out, HX.out] <;> omega), hJ9⟩
    ·have hx1 : (x % 2 == 1) = true := by simp; omega
     have hr2 : (2 * r == b) = true := by simpa using hr
     have hr3 : decide (b < 2 * r) = false := decide_eq_false (by omega)
     have hr4 : r ≠ 0 := by omega
     have HR := Lib.hid hr
     have HX := Lib.hid hx
     have H4 := Lib.hid hr4
     clear hr hx hr4
     go_wp2_with fail
     go_ret
     exact ⟨dret_int (by rw [← HZ.out]; simp [sgn, rqN, upN, HR.out, HX.out, H4.out] <;> omega), hJ9⟩
   ·have hr2 : (2 * r == b) = false := by simpa using hr
    have HR := Lib.hid hr
    clear hr
    by_cases hl : b < 2 * r
    ·have hr4 : r ≠ 0 := by omega
     have hl2 : ¬ 2 * r < b := by omega
     have H4 := Lib.hid hr4
     have HL := Lib.hid hl2
     clear hr4 hl2
     go_wp2_with fail
     go_ret
     exact ⟨dret_int (by rw [← HZ.out]; simp [sgn, rqN, upN, HR.out, HL.out, H4.out] <;> omega), hJ9⟩
    ·have hl1 : decide (b < 2 * r) = false := decide_eq_false hl
     have hl2 : 2 * r < b := by have := HR.out; omega
     have HL := Lib.hid hl2
     clear hl hl2
     go_wp2_with fail
     go_ret
     exact ⟨dret_int (by rw [← HZ.out]; simp [sgn, rqN, upN, HR.out, HL.out] <;> omega), hJ9⟩
  ·go_wp2_with fail
   go_ret
   exact ⟨dret_int (by rw [← HZ.out]; simp [sgn, rqN, upN]), hJ9⟩
  ·by_cases hr : r = 0
   ·subst hr
    go_wp2_with fail
    go_ret
    exact ⟨dret_int (by rw [← HZ.out]; simp [sgn, rqN, upN]), hJ9⟩
   ·have hr1 : 0 < r := by omega
    have HR := Lib.hid hr
    clear hr
    go_wp2_with fail
    go_ret
    exact ⟨dret_int (by rw [← HZ.out]; simp [sgn, rqN, upN, HR.out] <;> omega), hJ9⟩
  ·by_cases hr : r = 0
   ·subst hr
    go_wp2_with fail
    go_ret
    exact ⟨dret_int (by rw [← HZ.out]; simp [sgn, rqN, upN]), hJ9⟩
   ·have hr1 : 0 < r := by omega
    have HR := Lib.hid hr
    clear hr
    go_wp2_with fail
    go_ret
    exact ⟨dret_int (by rw [← HZ.out]; simp [sgn, rqN, upN, HR.out] <;> omega), hJ9⟩
  ·by_cases hr : r = 0
   ·subst hr
    go_wp2_with fail
    go_ret
    exact ⟨dret_int (by rw [← HZ.out]; simp [sgn, rqN, upN]), hJ9⟩
   ·have hr1 : 0 < r := by omega
    have HR := Lib.hid hr
    clear hr
    go_wp2_with fail
    go_ret
    exact ⟨dret_int (by rw [← HZ.out]; simp [sgn, rqN, upN, HR.out] <;> omega), hJ9⟩
set_option maxRecDepth 20000 in
set_option maxHeartbeats 3200000 in
theorem rq_11 (m a b : Int) (w : World) (hm0 : 0 ≤ m) (hm1 : m ≤ 5) (h1 : 0 < a) (h2 : a ≤ 1000000000000000000) (h3 : 0 < b) (h4 : b ≤ 1000000000000000000) :
  Calls Tryd.prog 27 #[.int .i64 (-a), .int .i64 (-b), .int .i64 m] w fun e w' => e = .returned (.int .i64 (sgn false (rqN m false (a / b) (a % b) b))) ∧ Below w.heap.size w w' := by
 obtain ⟨z, hz⟩ : ∃ z, sgn false (rqN m false (a / b) (a % b) b) = z := ⟨_, rfl⟩
 rw [hz]
 have HZ := Lib.hid hz
 clear hz
 have q0 : 0 ≤ a / b := Int.ediv_nonneg (by omega) (by omega)
 have q2 : a / b ≤ 1000000000000000000 := Int.le_trans (Int.ediv_le_self _ (by omega)) h2
 have q3 : 0 ≤ a % b := Int.emod_nonneg _ (by omega)
 have q4 : a % b < b := Int.emod_lt_of_pos _ h3
 have hz : (b == 0) = false := by simp; omega
 have hza : (a == 0) = false := by simp; omega
 have hzb : ((-a) != 0) = true := by simp; omega
 have hzc : ((-a) == 0) = false := by simp; omega
 have h0 : 0 ≤ a := by omega
 have hs : ∀ w, Calls Tryd.prog 10 #[.int .i64 (-a)] w fun e w' => e = .returned (.int .i64 a) ∧ w = w' := fun w => (size_any (-a) w (by omega) (by omega)).mono fun _ _ h => by rw [show (((-a) : Int).natAbs : Int) = a by omega] at h; exact h
 have ht : ∀ w, Calls Tryd.prog 10 #[.int .i64 (-b)] w fun e w' => e = .returned (.int .i64 b) ∧ w = w' := fun w => (size_any (-b) w (by omega) (by omega)).mono fun _ _ h => by rw [show (((-b) : Int).natAbs : Int) = b by omega] at h; exact h
 have HS := Lib.hid hs
 have HT := Lib.hid ht
 clear hs ht
 have hb0 : ¬ b = 0 := by omega
 have hdv : IntKind.i64.wrap ((a : Int).tdiv b) = a / b := by rw [Int.tdiv_eq_ediv_of_nonneg (by omega), IntKind.wrap_i64]; omega
 have hmd : (a : Int).tmod b = a % b := Int.tmod_eq_emod_of_nonneg (by omega)
 have HB0 := Lib.hid hb0
 have HDV := Lib.hid hdv
 have HMD := Lib.hid hmd
 have hw0 : IntKind.i64.wrap 0 = 0 := by rw [IntKind.wrap_i64]; rfl
 clear hb0 hdv hmd
 go_enter Tryd.func27, Tryd.ntmps27
 go_upto_region 2 with (fail)
 refine AS.region_facts (rqFL (-a) (-b) a b (a / b) (a % b)) (DNo w) [[], [21], [], [23], [22, 24], [], [26], [], [28], [27, 29], [], [31], [25], [30], [32]] [] [[]] [0, 0, 0, 0, 0, 0, 0, 0, 0, 0, 0, 0, 0, 0, 0] [] (fun u => by simp only [rqFL, AS.temps, List.map_cons, List.map_nil, fillL, List.setIfInBounds_toArray, List.set_cons_zero, List.set_cons_succ]; rfl) (by kernel_rfl) (by kernel_rfl) (DNo.st w) (dc_drew (Below.refl _ _)) ?_ ?_
 ·refine AS.sc rfl rfl rfl ?_ ?_
  ·intro k_ u w_ hk hJ hF K hK
   clear hF
   go_simp
   exact hK.out _ _ (Below.refl _ _) (rfl) trivial
  refine AS.sc rfl rfl rfl ?_ ?_
  ·intro k_ u w_ hk hJ hF K hK
   have h21 : u 21 = .int .i64 (-a) := AS.facts_get hF 21 (by simp)
   clear hF
   simp only [h21] at hK ⊢
   clear h21
   go_simp
   refine (HS.out _).mono ?_
   rintro e w' ⟨rfl, rfl⟩
   exact hK.out _ _ (Below.refl _ _) rfl trivial
  refine AS.sc rfl rfl rfl ?_ ?_
  ·intro k_ u w_ hk hJ hF K hK
   clear hF
   go_simp
   exact hK.out _ _ (Below.refl _ _) (rfl) trivial
  refine AS.sc rfl rfl rfl ?_ ?_
  ·intro k_ u w_ hk hJ hF K hK
   have h23 : u 23 = .int .i64 (-b) := AS.facts_get hF 23 (by simp)
   clear hF
   simp only [h23] at hK ⊢
   clear h23
   go_simp
   refine (HT.out _).mono ?_
   rintro e w' ⟨rfl, rfl⟩
   exact hK.out _ _ (Below.refl _ _) rfl trivial
  refine AS.sc rfl rfl rfl ?_ ?_
  ·intro k_ u w_ hk hJ hF K hK
   have h22 : u 22 = .int .i64 a := AS.facts_get hF 22 (by simp)
   have h24 : u 24 = .int .i64 b := AS.facts_get hF 24 (by simp)
   clear hF
   simp only [h22, h24] at hK ⊢
   clear h22 h24
   have o0 := HB0.out
   have o1 := HDV.out
   have o2 := HMD.out
   go_simp
   exact hK.out _ _ (Below.refl _ _) rfl trivial
  refine AS.sc rfl rfl rfl ?_ ?_
  ·intro k_ u w_ hk hJ hF K hK
   clear hF
   go_simp
   exact hK.out _ _ (Below.refl _ _) (rfl) trivial
  refine AS.sc rfl rfl rfl ?_ ?_
  ·intro k_ u w_ hk hJ hF K hK
   have h26 : u 26 = .int .i64 (-a) := AS.facts_get hF 26 (by simp)
   clear hF
   simp only [h26] at hK ⊢
   clear h26
   go_simp
   refine (HS.out _).mono ?_
   rintro e w' ⟨rfl, rfl⟩
   exact hK.out _ _ (Below.refl _ _) rfl trivial
  refine AS.sc rfl rfl rfl ?_ ?_
  ·intro k_ u w_ hk hJ hF K hK
   clear hF
   go_simp
   exact hK.out _ _ (Below.refl _ _) (rfl) trivial
  refine AS.sc rfl rfl rfl ?_ ?_
  ·intro k_ u w_ hk hJ hF K hK
   have h28 : u 28 = .int .i64 (-b) := AS.facts_get hF 28 (by simp)
   clear hF
   simp only [h28] at hK ⊢
   clear h28
   go_simp
   refine (HT.out _).mono ?_
   rintro e w' ⟨rfl, rfl⟩
   exact hK.out _ _ (Below.refl _ _) rfl trivial
  refine AS.sc rfl rfl rfl ?_ ?_
  ·intro k_ u w_ hk hJ hF K hK
   have h27 : u 27 = .int .i64 a := AS.facts_get hF 27 (by simp)
   have h29 : u 29 = .int .i64 b := AS.facts_get hF 29 (by simp)
   clear hF
   simp only [h27, h29] at hK ⊢
   clear h27 h29
   have o0 := HB0.out
   have o1 := HDV.out
   have o2 := HMD.out
   go_simp
   exact hK.out _ _ (Below.refl _ _) rfl trivial
  refine AS.sc rfl rfl rfl ?_ ?_
  ·intro k_ u w_ hk hJ hF K hK
   clear hF
   go_simp
   exact hK.out _ _ (Below.refl _ _) (rfl) trivial
  refine AS.sc rfl rfl rfl ?_ ?_
  ·intro k_ u w_ hk hJ hF K hK
   have h31 : u 31 = .int .i64 (-b) := AS.facts_get hF 31 (by simp)
   clear hF
   simp only [h31] at hK ⊢
   clear h31
   go_simp
   refine (HT.out _).mono ?_
   rintro e w' ⟨rfl, rfl⟩
   exact hK.out _ _ (Below.refl _ _) rfl trivial
  refine AS.sc rfl rfl rfl ?_ ?_
  ·intro k_ u w_ hk hJ hF K hK
   have h25 : u 25 = .int .i64 (a / b) := AS.facts_get hF 25 (by simp)
   clear hF
   simp only [h25] at hK ⊢
   clear h25
   go_simp
   exact hK.out _ _ (Below.refl _ _) rfl trivial
  refine AS.sc rfl rfl rfl ?_ ?_
  ·intro k_ u w_ hk hJ hF K hK
   have h30 : u 30 = .int .i64 (a % b) := AS.facts_get hF 30 (by simp)
   clear hF
   simp only [h30] at hK ⊢
   clear h30
   go_simp
   exact hK.out _ _ (Below.refl _ _) rfl trivial
  refine AS.sc rfl rfl rfl ?_ ?_
  ·intro k_ u w_ hk hJ hF K hK
   have h32 : u 32 = .int .i64 b := AS.facts_get hF 32 (by simp)
   clear hF
   simp only [h32] at hK ⊢
   clear h32
   go_simp
   exact hK.out _ _ (Below.refl _ _) rfl trivial
  exact AS.StepsOk.nil
 ·intro u W3 hJ9 hF
  have h8 : u 8 = .int .i64 (a / b) := AS.facts_get hF 8 (by simp [rqFL, AS.temps])
  have h9 : u 9 = .int .i64 (a % b) := AS.facts_get hF 9 (by simp [rqFL, AS.temps])
  have h10 : u 10 = .int .i64 b := AS.facts_get hF 10 (by simp [rqFL, AS.temps])
  clear hF
  rw [show u 8 = _ from h8, show u 9 = _ from h9, show u 10 = _ from h10]
  clear h8 h9 h10
  generalize a / b = x at *
  generalize a % b = r at *
  have hc : m = 0 ∨ m = 1 ∨ m = 2 ∨ m = 3 ∨ m = 4 ∨ m = 5 := by omega
  clear hm0 hm1
  rcases hc with rfl | rfl | rfl | rfl | rfl | rfl
  ·by_cases hr : 2 * r < b
   all_goals
    go_wp2_with fail
    go_ret
    exact ⟨dret_int (by rw [← HZ.out]; simp [sgn, rqN, upN, hr] <;> omega), hJ9⟩
  ·by_cases hr : 2 * r = b
   ·have hr1 : b ≤ 2 * r := by omega
    by_cases hx : x % 2 = 0
    ·have hx1 : (x % 2 == 1) = false := by simp; omega
     have hr2 : (2 * r == b) = true := by simpa using hr
     have hr3 : decide (b < 2 * r) = false := decide_eq_false (by omega)
     have HR := Lib.hid hr
     have HX := Lib.hid hx
     clear hr hx
     go_wp2_with fail
     go_ret
     exact ⟨dret_int (by rw [← HZ.out]; simp [sgn, rqN, upN, HR.out, HX.out] <;> omega), hJ9⟩
    ·have hx1 : (x % 2 == 1) = true := by simp; omega
     have hr2 : (2 * r == b) = true := by simpa using hr
     have hr3 : decide (b < 2 * r) = false := decide_eq_false (by omega)
     have hr4 : r ≠ 0 := by omega
     have HR := Lib.hid hr
     have HX := Lib.hid hx
     have H4 := Lib.hid hr4
     clear hr hx hr4
     go_wp2_with fail
     go_ret
     exact ⟨dret_int (by rw [← HZ.out]; simp [sgn, rqN, upN, HR.out, HX.out, H4.out] <;> omega), hJ9⟩
   ·have hr2 : (2 * r == b) = false := by simpa using hr
    have HR := Lib.hid hr
    clear hr
    by_cases hl : b < 2 * r
    ·have hr4 : r ≠ 0 := by omega
     have hl2 : ¬ 2 * r < b := by omega
     have H4 := Lib.hid hr4
     have HL := Lib.hid hl2
     clear hr4 hl2
     go_wp2_with fail
     go_ret
     exact ⟨dret_int (by rw [← HZ.out]; simp [sgn, rqN, upN, HR.out, HL.out, H4.out] <;> omega), hJ9⟩
    ·have hl1 : decide (b < 2 * r) = false := decide_eq_false hl
     have hl2 : 2 * r < b := by have := HR.out; omega
     have HL := Lib.hid hl2
     clear hl hl2
     go_wp2_with fail
     go_ret
     exact ⟨dret_int (by rw [← HZ.out]; simp [sgn, rqN, upN, HR.out, HL.out] <;> omega), hJ9⟩
  ·go_wp2_with fail
   go_ret
   exact ⟨dret_int (by rw [← HZ.out]; simp [sgn, rqN, upN]), hJ9⟩
  ·by_cases hr : r = 0
   ·subst hr
    go_wp2_with fail
    go_ret
    exact ⟨dret_int (by rw [← HZ.out]; simp [sgn, rqN, upN]), hJ9⟩
   ·have hr1 : 0 < r := by omega
    have HR := Lib.hid hr
    clear hr
    go_wp2_with fail
    go_ret
    exact ⟨dret_int (by rw [← HZ.out]; simp [sgn, rqN, upN, HR.out] <;> omega), hJ9⟩
  ·by_cases hr : r = 0
   ·subst hr
    go_wp2_with fail
    go_ret
    exact ⟨dret_int (by rw [← HZ.out]; simp [sgn, rqN, upN]), hJ9⟩
   ·have hr1 : 0 < r := by omega
    have HR := Lib.hid hr
    clear hr
    go_wp2_with fail
    go_ret
    exact ⟨dret_int (by rw [← HZ.out]; simp [sgn, rqN, upN, HR.out] <;> omega), hJ9⟩
  ·by_cases hr : r = 0
   ·subst hr
    go_wp2_with fail
    go_ret
    exact ⟨dret_int (by rw [← HZ.out]; simp [sgn, rqN, upN]), hJ9⟩
   ·have hr1 : 0 < r := by omega
    have HR := Lib.hid hr
    clear hr
    go_wp2_with fail
    go_ret
    exact ⟨dret_int (by rw [← HZ.out]; simp [sgn, rqN, upN, HR.out] <;> omega), hJ9⟩
set_option maxRecDepth 20000 in
set_option maxHeartbeats 3200000 in
theorem rq_20 (m b : Int) (w : World) (hm0 : 0 ≤ m) (hm1 : m ≤ 5) (h3 : b ≠ 0) (h4 : -1000000000000000000 ≤ b) (h5 : b ≤ 1000000000000000000) :
  Calls Tryd.prog 27 #[.int .i64 0, .int .i64 b, .int .i64 m] w fun e w' => e = .returned (.int .i64 (0)) ∧ Below w.heap.size w w' := by
 have hs : ∀ w, Calls Tryd.prog 10 #[.int .i64 0] w fun e w' => e = .returned (.int .i64 0) ∧ w = w' := fun w => size_any 0 w (by omega) (by omega)
 have ht : ∀ w, Calls Tryd.prog 10 #[.int .i64 b] w fun e w' => e = .returned (.int .i64 (b.natAbs : Int)) ∧ w = w' := fun w => size_any b w (by omega) (by omega)
 have HS := Lib.hid hs
 have HT := Lib.hid ht
 obtain ⟨B, hB⟩ : ∃ B, (b.natAbs : Int) = B := ⟨_, rfl⟩
 have hB0 : 0 < B := by omega
 rw [hB] at HT
 clear hs ht hB h3 h4 h5
 have hz : (B == 0) = false := by simp; omega
 have q0 : (0 : Int) / B = 0 := Int.zero_ediv _
 have q1 : (0 : Int) % B = 0 := Int.zero_emod _
 have Q0 := Lib.hid q0
 have Q1 := Lib.hid q1
 clear q0 q1
 have hb0 : ¬ B = 0 := by omega
 have hdv : IntKind.i64.wrap ((0 : Int).tdiv B) = 0 / B := by rw [Int.tdiv_eq_ediv_of_nonneg (by omega), IntKind.wrap_i64]; rw [Q0.out]; rfl
 have hmd : (0 : Int).tmod B = 0 % B := Int.tmod_eq_emod_of_nonneg (by omega)
 have HB0 := Lib.hid hb0
 have HDV := Lib.hid hdv
 have HMD := Lib.hid hmd
 have hw0 : IntKind.i64.wrap 0 = 0 := by rw [IntKind.wrap_i64]; rfl
 clear hb0 hdv hmd
 go_enter Tryd.func27, Tryd.ntmps27
 go_upto_region 2 with (fail)
 refine AS.region_facts (rqFL 0 b 0 B 0 0) (DNo w) [[], [21], [], [23], [22, 24], [], [26], [], [28], [27, 29], [], [31], [25], [30], [32]] [] [[]] [0, 0, 0, 0, 0, 0, 0, 0, 0, 0, 0, 0, 0, 0, 0] [] (fun u => by simp only [rqFL, AS.temps, List.map_cons, List.map_nil, fillL, List.setIfInBounds_toArray, List.set_cons_zero, List.set_cons_succ]; rfl) (by kernel_rfl) (by kernel_rfl) (DNo.st w) (dc_drew (Below.refl _ _)) ?_ ?_
 ·refine AS.sc rfl rfl rfl ?_ ?_
  ·intro k_ u w_ hk hJ hF K hK
   clear hF
   go_simp
   exact hK.out _ _ (Below.refl _ _) (rfl) trivial
  refine AS.sc rfl rfl rfl ?_ ?_
  ·intro k_ u w_ hk hJ hF K hK
   have h21 : u 21 = .int .i64 0 := AS.facts_get hF 21 (by simp)
   clear hF
   simp only [h21] at hK ⊢
   clear h21
   go_simp
   refine (HS.out _).mono ?_
   rintro e w' ⟨rfl, rfl⟩
   exact hK.out _ _ (Below.refl _ _) rfl trivial
  refine AS.sc rfl rfl rfl ?_ ?_
  ·intro k_ u w_ hk hJ hF K hK
   clear hF
   go_simp
   exact hK.out _ _ (Below.refl _ _) (rfl) trivial
  refine AS.sc rfl rfl rfl ?_ ?_
  ·intro k_ u w_ hk hJ hF K hK
   have h23 : u 23 = .int .i64 b := AS.facts_get hF 23 (by simp)
   clear hF
   simp only [h23] at hK ⊢
   clear h23
   go_simp
   refine (HT.out _).mono ?_
   rintro e w' ⟨rfl, rfl⟩
   exact hK.out _ _ (Below.refl _ _) rfl trivial
  refine AS.sc rfl rfl rfl ?_ ?_
  ·intro k_ u w_ hk hJ hF K hK
   have h22 : u 22 = .int .i64 0 := AS.facts_get hF 22 (by simp)
   have h24 : u 24 = .int .i64 B := AS.facts_get hF 24 (by simp)
   clear hF
   simp only [h22, h24] at hK ⊢
   clear h22 h24
   have o0 := HB0.out
   have o1 := HDV.out
   have o2 := HMD.out
   go_simp
   exact hK.out _ _ (Below.refl _ _) rfl trivial
  refine AS.sc rfl rfl rfl ?_ ?_
  ·intro k_ u w_ hk hJ hF K hK
   clear hF
   go_simp
   exact hK.out _ _ (Below.refl _ _) (rfl) trivial
  refine AS.sc rfl rfl rfl ?_ ?_
  ·intro k_ u w_ hk hJ hF K hK
   have h26 : u 26 = .int .i64 0 := AS.facts_get hF 26 (by simp)
   clear hF
   simp only [h26] at hK ⊢
   clear h26
   go_simp
   refine (HS.out _).mono ?_
   rintro e w' ⟨rfl, rfl⟩
   exact hK.out _ _ (Below.refl _ _) rfl trivial
  refine AS.sc rfl rfl rfl ?_ ?_
  ·intro k_ u w_ hk hJ hF K hK
   clear hF
   go_simp
   exact hK.out _ _ (Below.refl _ _) (rfl) trivial
  refine AS.sc rfl rfl rfl ?_ ?_
  ·intro k_ u w_ hk hJ hF K hK
   have h28 : u 28 = .int .i64 b := AS.facts_get hF 28 (by simp)
   clear hF
   simp only [h28] at hK ⊢
   clear h28
   go_simp
   refine (HT.out _).mono ?_
   rintro e w' ⟨rfl, rfl⟩
   exact hK.out _ _ (Below.refl _ _) rfl trivial
  refine AS.sc rfl rfl rfl ?_ ?_
  ·intro k_ u w_ hk hJ hF K hK
   have h27 : u 27 = .int .i64 0 := AS.facts_get hF 27 (by simp)
   have h29 : u 29 = .int .i64 B := AS.facts_get hF 29 (by simp)
   clear hF
   simp only [h27, h29] at hK ⊢
   clear h27 h29
   have o0 := HB0.out
   have o1 := HDV.out
   have o2 := HMD.out
   go_simp
   exact hK.out _ _ (Below.refl _ _) rfl trivial
  refine AS.sc rfl rfl rfl ?_ ?_
  ·intro k_ u w_ hk hJ hF K hK
   clear hF
   go_simp
   exact hK.out _ _ (Below.refl _ _) (rfl) trivial
  refine AS.sc rfl rfl rfl ?_ ?_
  ·intro k_ u w_ hk hJ hF K hK
   have h31 : u 31 = .int .i64 b := AS.facts_get hF 31 (by simp)
   clear hF
   simp only [h31] at hK ⊢
   clear h31
   go_simp
   refine (HT.out _).mono ?_
   rintro e w' ⟨rfl, rfl⟩
   exact hK.out _ _ (Below.refl _ _) rfl trivial
  refine AS.sc rfl rfl rfl ?_ ?_
  ·intro k_ u w_ hk hJ hF K hK
   have h25 : u 25 = .int .i64 0 := AS.facts_get hF 25 (by simp)
   clear hF
   simp only [h25] at hK ⊢
   clear h25
   go_simp
   exact hK.out _ _ (Below.refl _ _) rfl trivial
  refine AS.sc rfl rfl rfl ?_ ?_
  ·intro k_ u w_ hk hJ hF K hK
   have h30 : u 30 = .int .i64 0 := AS.facts_get hF 30 (by simp)
   clear hF
   simp only [h30] at hK ⊢
   clear h30
   go_simp
   exact hK.out _ _ (Below.refl _ _) rfl trivial
  refine AS.sc rfl rfl rfl ?_ ?_
  ·intro k_ u w_ hk hJ hF K hK
   have h32 : u 32 = .int .i64 B := AS.facts_get hF 32 (by simp)
   clear hF
   simp only [h32] at hK ⊢
   clear h32
   go_simp
   exact hK.out _ _ (Below.refl _ _) rfl trivial
  exact AS.StepsOk.nil
 ·intro u W3 hJ9 hF
  have h8 : u 8 = .int .i64 0 := AS.facts_get hF 8 (by simp [rqFL, AS.temps])
  have h9 : u 9 = .int .i64 0 := AS.facts_get hF 9 (by simp [rqFL, AS.temps])
  have h10 : u 10 = .int .i64 B := AS.facts_get hF 10 (by simp [rqFL, AS.temps])
  clear hF
  rw [show u 8 = _ from h8, show u 9 = _ from h9, show u 10 = _ from h10]
  clear h8 h9 h10
  have hc : m = 0 ∨ m = 1 ∨ m = 2 ∨ m = 3 ∨ m = 4 ∨ m = 5 := by omega
  clear hm0 hm1
  rcases hc with rfl | rfl | rfl | rfl | rfl | rfl
  all_goals
   go_wp2_with fail
   go_ret
   exact ⟨rfl, hJ9⟩
theorem dcquo_any (m a b : Int) (w : World) (hm0 : 0 ≤ m) (hm1 : m ≤ 5) (h1 : -1000000000000000000 ≤ a) (h2 : a ≤ 1000000000000000000) (h3 : -1000000000000000000 ≤ b) (h4 : b ≤ 1000000000000000000) (h0 : b ≠ 0) :
  Calls Tryd.prog 27 #[.int .i64 a, .int .i64 b, .int .i64 m] w fun e w' => e = .returned (.int .i64 (rnd m a b)) ∧ Below w.heap.size w w' := by
 by_cases hz : a = 0
 ·subst hz
  rw [rnd_zero m b hm0 hm1 h0]
  exact rq_20 m b w hm0 hm1 h0 h3 h4
 unfold rnd
 by_cases ha : a < 0
 ·obtain ⟨A, rfl⟩ : ∃ A, a = -A := ⟨-a, by omega⟩
  rw [show ((-A).natAbs : Int) = A by omega]
  by_cases hb : b < 0
  ·obtain ⟨B, rfl⟩ : ∃ B, b = -B := ⟨-b, by omega⟩
   rw [show ((-B).natAbs : Int) = B by omega, show negB (-A) (-B) = false by unfold negB; rw [decide_eq_true ha, decide_eq_true hb]; rfl]
   exact rq_11 m A B w hm0 hm1 (by omega) (by omega) (by omega) (by omega)
  ·rw [show (b.natAbs : Int) = b by omega, show negB (-A) b = true by unfold negB; rw [decide_eq_true ha, decide_eq_false hb]; rfl]
   exact rq_10 m A b w hm0 hm1 (by omega) (by omega) (by omega) (by omega)
 ·rw [show (a.natAbs : Int) = a by omega]
  by_cases hb : b < 0
  ·obtain ⟨B, rfl⟩ : ∃ B, b = -B := ⟨-b, by omega⟩
   rw [show ((-B).natAbs : Int) = B by omega, show negB a (-B) = true by unfold negB; rw [decide_eq_false ha, decide_eq_true hb]; rfl]
   exact rq_01 m a B w hm0 hm1 (by omega) (by omega) (by omega) (by omega)
  ·rw [show (b.natAbs : Int) = b by omega, show negB a b = false by unfold negB; rw [decide_eq_false ha, decide_eq_false hb]; rfl]
   exact rq_00 m a b w hm0 hm1 (by omega) (by omega) (by omega) (by omega)
theorem power_at (x : Int) (h0 : 0 ≤ x) (h9 : x ≤ 9) (w : World) : Calls Tryd.prog 24 #[.int .i64 x] w fun e w' => e = .returned (.int .i64 (pw x.toNat)) ∧ w = w' := by
 obtain ⟨k, rfl⟩ : ∃ k : Nat, x = k := ⟨x.toNat, by omega⟩
 exact power_any k (by omega) w
theorem rpower_at (x : Int) (h0 : 0 ≤ x) (h9 : x ≤ 9) (w : World) : Calls Tryd.prog 28 #[.int .i64 x] w fun e w' => e = .returned (.int .i64 (pw x.toNat)) ∧ w = w' := by
 obtain ⟨k, rfl⟩ : ∃ k : Nat, x = k := ⟨x.toNat, by omega⟩
 exact rpower_any k (by omega) w
theorem pw_add (j k : Nat) : pw (j + k) = pw j * pw k := by unfold pw; rw [Nat.pow_add]; simp
def cm (x y : Int) : Int := if x < y then -1 else if y < x then 1 else 0
theorem cm_neg (x y : Int) : cm y x = -(cm x y) := by unfold cm; repeat' split <;> omega
theorem cm_bd (x y : Int) : -1 ≤ cm x y ∧ cm x y ≤ 1 := by unfold cm; repeat' split <;> omega
theorem cm_trunc {A B x y r t : Int} (hA : A = x * 1000000000 + r) (hB : B = y * 1000000000 + t) (r1 : -1000000000 < r) (r2 : r < 1000000000) (t1 : -1000000000 < t) (t2 : t < 1000000000) (hx : (0 < x → 0 ≤ r) ∧ (x < 0 → r ≤ 0)) (hy : (0 < y → 0 ≤ t) ∧ (y < 0 → t ≤ 0)) :
  (if cm x y = 0 then cm r t else cm x y) = cm A B := by
 have hc : x < y ∨ x = y ∨ y < x := by omega
 rcases hc with h | h | h
 ·have e : cm x y = -1 := by unfold cm; rw [if_pos h]
  have e2 : cm A B = -1 := by unfold cm; rw [if_pos (by omega)]
  rw [e, e2]; rfl
 ·subst h
  have e : cm x x = 0 := by unfold cm; rw [if_neg (by omega), if_neg (by omega)]
  rw [e, if_pos rfl]
  unfold cm
  repeat' split <;> omega
 ·have e : cm x y = 1 := by unfold cm; rw [if_neg (by omega), if_pos h]
  have e2 : cm A B = 1 := by unfold cm; rw [if_neg (by omega), if_pos (by omega)]
  rw [e, e2]; rfl
theorem pw_nine {s : Int} (h0 : 0 ≤ s) (h9 : s ≤ 9) : pw s.toNat * pw (9 - s).toNat = 1000000000 := by
 rw [← pw_add, show s.toNat + (9 - s).toNat = 9 by omega]; rfl
def unitN (a s : Int) : Int := a * pw (9 - s).toNat
def compE (a sa b sb : Int) : Int := if validB a sa && validB b sb then 0 else 2
def compV (a sa b sb : Int) : Int := if compE a sa b sb = 0 then cm (unitN a sa) (unitN b sb) else 0
theorem split_facts {a s : Int} (h : validB a s = true) : ∃ U P X Q RP : Int, pw s.toNat = U ∧ pw (9 - s).toNat = P ∧ a.tdiv U = X ∧ a.tmod U = Q ∧ Q * P = RP ∧ 0 < U ∧ -1000000000000000 ≤ X ∧ X ≤ 1000000000000000 ∧ -1000000000 < RP ∧ RP < 1000000000 ∧ unitN a s = X * 1000000000 + RP ∧ (0 < X → 0 ≤ RP) ∧ (X < 0 → RP ≤ 0) := by
 obtain ⟨⟨h1, h2⟩, h0, h9⟩ := validB_is h
 refine ⟨_, _, _, _, _, rfl, rfl, rfl, rfl, rfl, ?_⟩
 have hu := (pw_bd (show s.toNat ≤ 9 by omega)).1
 have hp := (pw_bd (show (9 - s).toNat ≤ 9 by omega)).1
 have hT := pw_nine h0 h9
 unfold unitN
 generalize pw s.toNat = U at *
 generalize pw (9 - s).toNat = P at *
 have hdm : U * a.tdiv U + a.tmod U = a := Int.mul_tdiv_add_tmod a U
 have hlt : a.tmod U < U := Int.tmod_lt_of_pos a (by omega)
 have hgt : -U < a.tmod U := by
  have := Int.tmod_lt_of_pos (-a) (show 0 < U by omega)
  rw [Int.neg_tmod] at this; omega
 have e : a * P = a.tdiv U * 1000000000 + a.tmod U * P := by
  rw [← hT]
  have := congrArg (· * P) hdm
  simp only [Int.add_mul] at this
  rw [← this, Int.mul_comm U, Int.mul_assoc]
 have hsg : (0 ≤ a → 0 ≤ a.tdiv U ∧ 0 ≤ a.tmod U) ∧ (a ≤ 0 → a.tdiv U ≤ 0 ∧ a.tmod U ≤ 0) := by
  constructor
  ·intro h; exact ⟨Int.tdiv_nonneg h (by omega), Int.tmod_nonneg _ h⟩
  ·intro h
   have p1 := Int.tdiv_nonneg (show 0 ≤ -a by omega) (show 0 ≤ U by omega)
   have p2 := Int.tmod_nonneg U (show 0 ≤ -a by omega)
   rw [Int.neg_tdiv] at p1; rw [Int.neg_tmod] at p2
   omega
 have hxa : a.tdiv U ≤ 1000000000000000 ∧ -1000000000000000 ≤ a.tdiv U := by
  have := Int.natAbs_tdiv_le_natAbs a U
  omega
 generalize a.tdiv U = X at *
 generalize a.tmod U = Q at *
 have r1 : Q * P ≤ (U - 1) * P := Int.mul_le_mul_of_nonneg_right (by omega) (by omega)
 have r2 : -((U - 1) * P) ≤ Q * P := by rw [← Int.neg_mul]; exact Int.mul_le_mul_of_nonneg_right (by omega) (by omega)
 have r3 : (U - 1) * P = 1000000000 - P := by rw [Int.sub_mul, hT, Int.one_mul]
 have r4 : 0 ≤ Q → 0 ≤ Q * P := fun h => Int.mul_nonneg h (by omega)
 have r5 : Q ≤ 0 → Q * P ≤ 0 := fun h => Int.mul_nonpos_of_nonpos_of_nonneg h (by omega)
 refine ⟨by omega, hxa.2, hxa.1, by omega, by omega, e, fun h => r4 ?_, fun h => r5 ?_⟩
 ·rcases Int.le_total 0 a with g | g
  ·exact (hsg.1 g).2
  ·have := (hsg.2 g).1; omega
 ·rcases Int.le_total 0 a with g | g
  ·have := (hsg.1 g).1; omega
  ·exact (hsg.2 g).2
def spFL (n s s9 U P X Q RP : Int) : List (Nat × AS.Fact) := [(9, AS.Fact.is (.int .i64 n)), (10, AS.Fact.is (.int .i64 U)), (11, AS.Fact.is (.int .i64 X)), (12, AS.Fact.is (.int .i64 n)), (13, AS.Fact.is (.int .i64 U)), (14, AS.Fact.is (.int .i64 Q)), (15, AS.Fact.is (.int .i64 s)), (16, AS.Fact.is (.int .i64 s9)), (17, AS.Fact.is (.int .i64 P)), (18, AS.Fact.is (.int .i64 RP)), (4, AS.Fact.is (.int .i64 X)), (5, AS.Fact.is (.int .i64 RP))]
set_option maxRecDepth 20000 in
set_option maxHeartbeats 1600000 in
theorem split_any (n s U P X Q RP : Int) (w : World) (h0 : 0 ≤ s) (h9 : s ≤ 9) (hu : pw s.toNat = U) (hp : pw (9 - s).toNat = P) (hx : n.tdiv U = X) (hq : n.tmod U = Q) (hr : Q * P = RP) (hu0 : 0 < U) (x1 : -1000000000000000 ≤ X) (x2 : X ≤ 1000000000000000) (r1 : -1000000000 < RP) (r2 : RP < 1000000000) :
  Calls Tryd.prog 29 #[.int .i64 n, .int .i64 s] w fun e w' => e = .returned (.tuple #[.int .i64 X, .int .i64 RP]) ∧ Below w.heap.size w w' := by
 have hs : ∀ w, Calls Tryd.prog 24 #[.int .i64 s] w fun e w' => e = .returned (.int .i64 U) ∧ w = w' := fun w => by rw [← hu]; exact power_at s h0 h9 w
 obtain ⟨s9, hs9⟩ : ∃ s9, 9 - s = s9 := ⟨_, rfl⟩
 have hp2 : ∀ w, Calls Tryd.prog 24 #[.int .i64 s9] w fun e w' => e = .returned (.int .i64 P) ∧ w = w' := fun w => by rw [← hp, hs9]; exact power_at s9 (by omega) (by omega) w
 have HS := Lib.hid hs
 have HP := Lib.hid hp2
 have hub : ¬ U = 0 := by omega
 have HU := Lib.hid hub
 have hxw : IntKind.i64.wrap (n.tdiv U) = X := by rw [hx, IntKind.wrap_i64]; omega
 have HX := Lib.hid hxw
 have HQ := Lib.hid hq
 have h9w : IntKind.i64.wrap (9 - s) = s9 := by rw [hs9, IntKind.wrap_i64]; omega
 have H9 := Lib.hid h9w
 have hrw : IntKind.i64.wrap (Q * P) = RP := by rw [hr, IntKind.wrap_i64]; omega
 have HRP := Lib.hid hrw
 clear hs hp2 hub hxw hq h9w hrw hs9 hu hp hx hr hu0
 go_enter Tryd.func29, Tryd.ntmps29
 go_upto_region 1 with (fail)
 go_upto_region 2 with (go_at_call 24; refine (HS.out _).mono ?_; rintro e w' ⟨rfl, rfl⟩)
 refine AS.region_facts (spFL n s s9 U P X Q RP) (DNo w) [[], [], [9, 10], [], [], [12, 13], [], [15], [16], [14, 17], [11], [18]] [] [[]] [0, 0, 0, 0, 0, 0, 0, 0, 0, 0, 0, 0] [] (fun u => by simp only [spFL, AS.temps, List.map_cons, List.map_nil, fillL, List.setIfInBounds_toArray, List.set_cons_zero, List.set_cons_succ]; rfl) (by kernel_rfl) (by kernel_rfl) (DNo.st w) (dc_drew (Below.refl _ _)) ?_ ?_
 ·refine AS.sc rfl rfl rfl ?_ ?_
  ·intro k_ u w_ hk hJ hF K hK
   clear hF
   go_simp
   exact hK.out _ _ (Below.refl _ _) (rfl) trivial
  refine AS.sc rfl rfl rfl ?_ ?_
  ·intro k_ u w_ hk hJ hF K hK
   clear hF
   go_simp
   exact hK.out _ _ (Below.refl _ _) (rfl) trivial
  refine AS.sc rfl rfl rfl ?_ ?_
  ·intro k_ u w_ hk hJ hF K hK
   have h9 : u 9 = .int .i64 n := AS.facts_get hF 9 (by simp)
   have h10 : u 10 = .int .i64 U := AS.facts_get hF 10 (by simp)
   clear hF
   simp only [h9, h10] at hK ⊢
   clear h9 h10
   have o0 := HU.out
   have o1 := HX.out
   go_simp
   exact hK.out _ _ (Below.refl _ _) rfl trivial
  refine AS.sc rfl rfl rfl ?_ ?_
  ·intro k_ u w_ hk hJ hF K hK
   clear hF
   go_simp
   exact hK.out _ _ (Below.refl _ _) (rfl) trivial
  refine AS.sc rfl rfl rfl ?_ ?_
  ·intro k_ u w_ hk hJ hF K hK
   clear hF
   go_simp
   exact hK.out _ _ (Below.refl _ _) (rfl) trivial
  refine AS.sc rfl rfl rfl ?_ ?_
  ·intro k_ u w_ hk hJ hF K hK
   have h12 : u 12 = .int .i64 n := AS.facts_get hF 12 (by simp)
   have h13 : u 13 = .int .i64 U := AS.facts_get hF 13 (by simp)
   clear hF
   simp only [h12, h13] at hK ⊢
   clear h12 h13
   have o0 := HU.out
   have o1 := HQ.out
   go_simp
   exact hK.out _ _ (Below.refl _ _) rfl trivial
  refine AS.sc rfl rfl rfl ?_ ?_
  ·intro k_ u w_ hk hJ hF K hK
   clear hF
   go_simp
   exact hK.out _ _ (Below.refl _ _) (rfl) trivial
  refine AS.sc rfl rfl rfl ?_ ?_
  ·intro k_ u w_ hk hJ hF K hK
   have h15 : u 15 = .int .i64 s := AS.facts_get hF 15 (by simp)
   clear hF
   simp only [h15] at hK ⊢
   clear h15
   have o0 := H9.out
   go_simp
   exact hK.out _ _ (Below.refl _ _) rfl trivial
  refine AS.sc rfl rfl rfl ?_ ?_
  ·intro k_ u w_ hk hJ hF K hK
   have h16 : u 16 = .int .i64 s9 := AS.facts_get hF 16 (by simp)
   clear hF
   simp only [h16] at hK ⊢
   clear h16
   go_simp
   refine (HP.out _).mono ?_
   rintro e w' ⟨rfl, rfl⟩
   exact hK.out _ _ (Below.refl _ _) rfl trivial
  refine AS.sc rfl rfl rfl ?_ ?_
  ·intro k_ u w_ hk hJ hF K hK
   have h14 : u 14 = .int .i64 Q := AS.facts_get hF 14 (by simp)
   have h17 : u 17 = .int .i64 P := AS.facts_get hF 17 (by simp)
   clear hF
   simp only [h14, h17] at hK ⊢
   clear h14 h17
   have o0 := HRP.out
   go_simp
   exact hK.out _ _ (Below.refl _ _) rfl trivial
  refine AS.sc rfl rfl rfl ?_ ?_
  ·intro k_ u w_ hk hJ hF K hK
   have h11 : u 11 = .int .i64 X := AS.facts_get hF 11 (by simp)
   clear hF
   simp only [h11] at hK ⊢
   clear h11
   go_simp
   exact hK.out _ _ (Below.refl _ _) rfl trivial
  refine AS.sc rfl rfl rfl ?_ ?_
  ·intro k_ u w_ hk hJ hF K hK
   have h18 : u 18 = .int .i64 RP := AS.facts_get hF 18 (by simp)
   clear hF
   simp only [h18] at hK ⊢
   clear h18
   go_simp
   exact hK.out _ _ (Below.refl _ _) rfl trivial
  exact AS.StepsOk.nil
 ·intro u W3 hJ9 hF
  have h4 : u 4 = .int .i64 X := AS.facts_get hF 4 (by simp [spFL, AS.temps])
  have h5 : u 5 = .int .i64 RP := AS.facts_get hF 5 (by simp [spFL, AS.temps])
  clear hF
  rw [show u 4 = _ from h4, show u 5 = _ from h5]
  clear h4 h5
  go_wp2_with fail
  go_ret2
  exact ⟨rfl, hJ9⟩
set_option maxHeartbeats 800000 in
theorem cmpOr_any (x y : Int) (b : Nat) (w : World) (hx : w.cell? ⟨b, 0, none⟩ = some (.int .i64 x)) (hy : w.cell? ⟨b, 1, none⟩ = some (.int .i64 y)) :
  Calls Tryd.prog 30 #[.slice (some ⟨b, 0, none⟩) 2 2] w fun e w' => e = .returned (.int .i64 (if x = 0 then y else x)) ∧ w = w' := by
 by_cases h0 : x = 0
 ·subst h0
  rw [if_pos rfl]
  by_cases h1 : y = 0
  ·subst h1
   go_enter Tryd.func30, Tryd.ntmps30
   go_wp2
   go_loop [8] (fun i => ∃ j : Nat, j ≤ 2 ∧ i = .int .i64 j) (fun i => 2 - (intOf i).toNat)
   case atStart => exact ⟨0, by omega, rfl⟩
   case round =>
    obtain ⟨j, hj, rfl⟩ := hrel
    have hc : j = 0 ∨ j = 1 ∨ j = 2 := by omega
    rcases hc with rfl | rfl | rfl
    ·go_wp2
     go_round
     case rel => exact ⟨1, by omega, rfl⟩
     case measure => simp [intOf]
    ·go_wp2
     go_round
     case rel => exact ⟨2, by omega, rfl⟩
     case measure => simp [intOf]
    ·go_wp2
     go_ret
     exact ⟨rfl, rfl⟩
  ·have h2 : (y != 0) = true := by simpa using h1
   clear h1
   go_enter Tryd.func30, Tryd.ntmps30
   go_wp2
   go_loop [8] (fun i => ∃ j : Nat, j ≤ 1 ∧ i = .int .i64 j) (fun i => 2 - (intOf i).toNat)
   case atStart => exact ⟨0, by omega, rfl⟩
   case round =>
    obtain ⟨j, hj, rfl⟩ := hrel
    have hc : j = 0 ∨ j = 1 := by omega
    rcases hc with rfl | rfl
    ·go_wp2
     go_round
     case rel => exact ⟨1, by omega, rfl⟩
     case measure => simp [intOf]
    ·go_wp2
     go_ret
     exact ⟨rfl, rfl⟩
 ·rw [if_neg h0]
  have h2 : (x != 0) = true := by simpa using h0
  clear h0
  go_enter Tryd.func30, Tryd.ntmps30
  go_wp2
  go_loop [8] (fun i => i = .int .i64 0) (fun i => 2 - (intOf i).toNat)
  case atStart => exact rfl
  case round =>
   subst hrel
   go_wp2
   go_ret
   exact ⟨rfl, rfl⟩
theorem cmpC_any (x y : Int) (w : World) : Calls Tryd.prog 31 #[.int .i64 x, .int .i64 y] w fun e w' => e = .returned (.int .i64 (cm x y)) ∧ w = w' :=
 (Tryd.cmp_Compare_int x y w).mono fun _ _ ⟨h1, h2⟩ => ⟨h1, h2.symm⟩
set_option maxHeartbeats 1600000 in
theorem dcompare_any (a sa b sb : Int) (w : World) : Calls Tryd.prog 14 #[.int .i64 a, .int .i64 sa, .int .i64 b, .int .i64 sb] w fun e w' => e = .returned (.tuple #[.int .i64 (compV a sa b sb), .int .i64 (compE a sa b sb)]) ∧ Below w.heap.size w w' := by
 unfold compV compE
 cases hv1 : validB a sa
 ·rw [if_neg (by simp), if_neg (by simp)]
  have hB := Below.refl w.heap.size w
  go_enter Tryd.func14, Tryd.ntmps14
  go_wp2_with (first | (go_at_call 23; refine (valid_any _ _ _).mono ?_; rintro e w' ⟨rfl, rfl⟩))
  go_ret2
  exact ⟨rfl, hB⟩
 ·cases hv2 : validB b sb
  ·rw [if_neg (by simp), if_neg (by simp)]
   have hB := Below.refl w.heap.size w
   go_enter Tryd.func14, Tryd.ntmps14
   go_wp2_with (first | (go_at_call 23; refine (valid_any _ _ _).mono ?_; rintro e w' ⟨rfl, rfl⟩))
   go_ret2
   exact ⟨rfl, hB⟩
  ·rw [Bool.and_self, if_pos rfl, if_pos rfl]
   obtain ⟨U, P, X, Q, RP, a1, a2, a3, a4, a5, a6, a7, a8, a9, a10, a11, a12, a13⟩ := split_facts hv1
   obtain ⟨U', P', X', Q', RP', b1, b2, b3, b4, b5, b6, b7, b8, b9, b10, b11, b12, b13⟩ := split_facts hv2
   have hcm := cm_trunc a11 b11 a9 a10 b9 b10 ⟨a12, a13⟩ ⟨b12, b13⟩
   have hs1 : ∀ w, Calls Tryd.prog 29 #[.int .i64 a, .int .i64 sa] w fun e w' => e = .returned (.tuple #[.int .i64 X, .int .i64 RP]) ∧ Below w.heap.size w w' := fun w => split_any a sa U P X Q RP w (validB_is hv1).2.1 (validB_is hv1).2.2 a1 a2 a3 a4 a5 a6 a7 a8 a9 a10
   have hs2 : ∀ w, Calls Tryd.prog 29 #[.int .i64 b, .int .i64 sb] w fun e w' => e = .returned (.tuple #[.int .i64 X', .int .i64 RP']) ∧ Below w.heap.size w w' := fun w => split_any b sb U' P' X' Q' RP' w (validB_is hv2).2.1 (validB_is hv2).2.2 b1 b2 b3 b4 b5 b6 b7 b8 b9 b10
   rw [← hcm]
   have HS1 := Lib.hid hs1
   have HS2 := Lib.hid hs2
   clear hs1 hs2 hcm a1 a2 a3 a4 a5 a6 a7 a8 a9 a10 a11 a12 a13 b1 b2 b3 b4 b5 b6 b7 b8 b9 b10 b11 b12 b13
   have hB := Below.refl w.heap.size w
   go_enter Tryd.func14, Tryd.ntmps14
   go_wp2_with (first | (go_at_call 23; refine (valid_any _ _ _).mono ?_; rintro e w' ⟨rfl, rfl⟩) | (go_at_call 29; first | ((with_reducible refine (HS1.out _).mono ?_); rintro e w' ⟨rfl, hb⟩; replace hB := below_more hB hb; clear hb) | ((with_reducible refine (HS2.out _).mono ?_); rintro e w' ⟨rfl, hb⟩; replace hB := below_more hB hb; clear hb)) | (go_at_call 31; refine (cmpC_any _ _ _).mono ?_; rintro e w' ⟨rfl, rfl⟩) | (go_at_call 30; refine (cmpOr_any (cm X X') (cm RP RP') _ _ (by simp) (by simp)).mono ?_; rintro e w' ⟨rfl, rfl⟩))
   all_goals
    go_ret2
    exact ⟨rfl, hB.alloc hB.size _⟩
theorem rnd_floor (a b : Int) (hb : 0 < b) : rnd 4 a b = a / b := by
 unfold rnd
 rw [show (b.natAbs : Int) = b by omega]
 by_cases ha : a < 0
 ·obtain ⟨A, rfl⟩ : ∃ A, a = -A := ⟨-a, by omega⟩
  rw [show ((-A).natAbs : Int) = A by omega, show negB (-A) b = true by unfold negB; rw [decide_eq_true ha, decide_eq_false (by omega)]; rfl]
  have h1 : b * (A / b) + A % b = A := Int.mul_ediv_add_emod A b
  have h2 : 0 ≤ A % b := Int.emod_nonneg _ (by omega)
  have h3 : A % b < b := Int.emod_lt_of_pos _ hb
  generalize A / b = q at *
  generalize A % b = r at *
  have e : rqN 4 true q r b = upN q r := by simp [rqN]
  rw [e]
  show -(upN q r) = -A / b
  unfold upN
  by_cases hr : r = 0
  ·rw [if_pos hr, show -A = 0 + b * (-q) by rw [Int.mul_neg]; omega, Int.add_mul_ediv_left _ _ (by omega), Int.zero_ediv]; omega
  ·rw [if_neg hr, show -A = (b - r) + b * (-q - 1) by rw [Int.mul_sub, Int.mul_neg, Int.mul_one]; omega, Int.add_mul_ediv_left _ _ (by omega), Int.ediv_eq_zero_of_lt (by omega) (by omega)]; omega
 ·rw [show (a.natAbs : Int) = a by omega, show negB a b = false by unfold negB; rw [decide_eq_false ha, decide_eq_false (by omega)]; rfl]
  simp [rqN, sgn]
theorem cm_floor {A B x y r t : Int} (hA : A = x * 1000000000 + r) (hB : B = y * 1000000000 + t) (r1 : 0 ≤ r) (r2 : r < 1000000000) (t1 : 0 ≤ t) (t2 : t < 1000000000) :
  (if x = y then cm r t else cm x y) = cm A B := by
 have hc : x < y ∨ x = y ∨ y < x := by omega
 rcases hc with h | h | h
 ·rw [if_neg (by omega)]; unfold cm; rw [if_pos h, if_pos (by omega)]
 ·subst h; rw [if_pos rfl]; unfold cm; repeat' split <;> omega
 ·rw [if_neg (by omega)]; unfold cm; rw [if_neg (by omega), if_pos h, if_neg (by omega), if_pos (by omega)]
theorem floor_facts {a s : Int} (h : validB a s = true) : ∃ U P x xu r rp : Int, pw s.toNat = U ∧ pw (9 - s).toNat = P ∧ rnd 4 a U = x ∧ x * U = xu ∧ a - xu = r ∧ r * P = rp ∧ (0 < U ∧ U ≤ 1000000000) ∧ (-1000000000000000 ≤ x ∧ x ≤ 1000000000000000) ∧ (-2000000000000000 ≤ xu ∧ xu ≤ 2000000000000000) ∧ (0 ≤ r ∧ r ≤ 1000000000) ∧ 0 ≤ rp ∧ rp < 1000000000 ∧ unitN a s = x * 1000000000 + rp := by
 obtain ⟨⟨h1, h2⟩, h0, h9⟩ := validB_is h
 refine ⟨_, _, _, _, _, _, rfl, rfl, rfl, rfl, rfl, rfl, ?_⟩
 have hu := pw_bd (show s.toNat ≤ 9 by omega)
 have hp := (pw_bd (show (9 - s).toNat ≤ 9 by omega)).1
 have hT := pw_nine h0 h9
 unfold unitN
 rw [rnd_floor a _ (by omega)]
 generalize pw s.toNat = U at *
 generalize pw (9 - s).toNat = P at *
 have hdm : U * (a / U) + a % U = a := Int.mul_ediv_add_emod a U
 have m1 : 0 ≤ a % U := Int.emod_nonneg _ (by omega)
 have m2 : a % U < U := Int.emod_lt_of_pos _ (by omega)
 have d1 : a / U ≤ 1000000000000000 := Int.le_trans (Int.ediv_le_ediv (by omega) h2) (Int.ediv_le_self _ (by omega))
 have d2 : -1000000000000000 ≤ a / U := by
  rw [Int.le_ediv_iff_mul_le (by omega)]
  have : (1000000000000000 : Int) * 1 ≤ 1000000000000000 * U := Int.mul_le_mul_of_nonneg_left (by omega) (by omega)
  rw [Int.neg_mul]; omega
 rw [Int.mul_comm U] at hdm
 have e : a * P = a / U * 1000000000 + (a - a / U * U) * P := by
  rw [← hT, ← Int.mul_assoc, ← Int.add_mul]; congr 1; omega
 generalize a / U = x at *
 generalize a % U = m at *
 have em : a - x * U = m := by omega
 rw [em] at e ⊢
 have r1 : m * P ≤ (U - 1) * P := Int.mul_le_mul_of_nonneg_right (by omega) (by omega)
 have r3 : (U - 1) * P = 1000000000 - P := by rw [Int.sub_mul, hT, Int.one_mul]
 have r4 : 0 ≤ m * P := Int.mul_nonneg m1 (by omega)
 exact ⟨⟨by omega, by omega⟩, ⟨d2, d1⟩, ⟨by omega, by omega⟩, ⟨by omega, by omega⟩, r4, by omega, e⟩
set_option maxHeartbeats 3200000 in
theorem drcompare_any (a sa b sb : Int) (w : World) : Calls Tryd.prog 17 #[.int .i64 a, .int .i64 sa, .int .i64 b, .int .i64 sb] w fun e w' => e = .returned (.tuple #[.int .i64 (compV a sa b sb), .int .i64 (compE a sa b sb)]) ∧ Below w.heap.size w w' := by
 unfold compV compE
 cases hv1 : validB a sa
 ·rw [if_neg (by simp), if_neg (by simp)]
  have hB := Below.refl w.heap.size w
  go_enter Tryd.func17, Tryd.ntmps17
  go_wp2_with (first | (go_at_call 26; refine (rvalid_any _ _ _).mono ?_; rintro e w' ⟨rfl, rfl⟩))
  go_ret2
  exact ⟨rfl, hB⟩
 ·cases hv2 : validB b sb
  ·rw [if_neg (by simp), if_neg (by simp)]
   have hB := Below.refl w.heap.size w
   go_enter Tryd.func17, Tryd.ntmps17
   go_wp2_with (first | (go_at_call 26; refine (rvalid_any _ _ _).mono ?_; rintro e w' ⟨rfl, rfl⟩))
   go_ret2
   exact ⟨rfl, hB⟩
  ·rw [Bool.and_self, if_pos rfl, if_pos rfl]
   obtain ⟨U, P, x, xu, r, rp, a1, a2, a3, a4, a5, a6, ⟨a7, a8⟩, ⟨a9, a10⟩, ⟨a11, a12⟩, ⟨a13, a14⟩, a15, a16, a17⟩ := floor_facts hv1
   obtain ⟨U', P', y, yu, t, tp, b1, b2, b3, b4, b5, b6, ⟨b7, b8⟩, ⟨b9, b10⟩, ⟨b11, b12⟩, ⟨b13, b14⟩, b15, b16, b17⟩ := floor_facts hv2
   obtain ⟨⟨ha1, ha2⟩, hs1, hs2⟩ := validB_is hv1
   obtain ⟨⟨hb1, hb2⟩, ht1, ht2⟩ := validB_is hv2
   rw [← cm_floor a17 b17 a15 a16 b15 b16]
   have pa : ∀ w, Calls Tryd.prog 28 #[.int .i64 sa] w fun e w' => e = .returned (.int .i64 U) ∧ w = w' := fun w => by rw [← a1]; exact rpower_at sa hs1 hs2 w
   have pb : ∀ w, Calls Tryd.prog 28 #[.int .i64 sb] w fun e w' => e = .returned (.int .i64 U') ∧ w = w' := fun w => by rw [← b1]; exact rpower_at sb ht1 ht2 w
   have pc : ∀ w, Calls Tryd.prog 28 #[.int .i64 (9 - sa)] w fun e w' => e = .returned (.int .i64 P) ∧ w = w' := fun w => by rw [← a2]; exact rpower_at (9 - sa) (by omega) (by omega) w
   have pd : ∀ w, Calls Tryd.prog 28 #[.int .i64 (9 - sb)] w fun e w' => e = .returned (.int .i64 P') ∧ w = w' := fun w => by rw [← b2]; exact rpower_at (9 - sb) (by omega) (by omega) w
   have qa : ∀ w, Calls Tryd.prog 27 #[.int .i64 a, .int .i64 U, .int .i64 4] w fun e w' => e = .returned (.int .i64 x) ∧ Below w.heap.size w w' := fun w => by rw [← a3]; exact dcquo_any 4 a U w (by omega) (by omega) (by omega) (by omega) (by omega) (by omega) (by omega)
   have qb : ∀ w, Calls Tryd.prog 27 #[.int .i64 b, .int .i64 U', .int .i64 4] w fun e w' => e = .returned (.int .i64 y) ∧ Below w.heap.size w w' := fun w => by rw [← b3]; exact dcquo_any 4 b U' w (by omega) (by omega) (by omega) (by omega) (by omega) (by omega) (by omega)
   have HS1 := Lib.hid pa
   have HS2 := Lib.hid pb
   have HP1 := Lib.hid pc
   have HP2 := Lib.hid pd
   have HQ1 := Lib.hid qa
   have HQ2 := Lib.hid qb
   clear pa pb pc pd qa qb a1 a2 a3 a17 b1 b2 b3 b17
   have hB := Below.refl w.heap.size w
   by_cases hxy : x = y
   ·subst hxy
    rw [if_pos rfl]
    unfold cm
    by_cases h1 : rp < tp
    ·rw [if_pos h1]
     go_enter Tryd.func17, Tryd.ntmps17
     go_wp2_with (first | (go_at_call 26; refine (rvalid_any _ _ _).mono ?_; rintro e w' ⟨rfl, rfl⟩) | (go_at_call 28; first | ((with_reducible refine (HS1.out _).mono ?_); rintro e w' ⟨rfl, rfl⟩) | ((with_reducible refine (HS2.out _).mono ?_); rintro e w' ⟨rfl, rfl⟩) | ((with_reducible refine (HP1.out _).mono ?_); rintro e w' ⟨rfl, rfl⟩) | ((with_reducible refine (HP2.out _).mono ?_); rintro e w' ⟨rfl, rfl⟩)) | (go_at_call 27; first | ((with_reducible refine (HQ1.out _).mono ?_); rintro e w' ⟨rfl, hb⟩; replace hB := below_more hB hb; clear hb) | ((with_reducible refine (HQ2.out _).mono ?_); rintro e w' ⟨rfl, hb⟩; replace hB := below_more hB hb; clear hb)))
     go_ret2
     exact ⟨rfl, hB⟩
    ·rw [if_neg h1]
     have h1' : decide (rp < tp) = false := decide_eq_false h1
     by_cases h2 : tp < rp
     ·rw [if_pos h2]
      clear h1
      go_enter Tryd.func17, Tryd.ntmps17
      go_wp2_with (first | (go_at_call 26; refine (rvalid_any _ _ _).mono ?_; rintro e w' ⟨rfl, rfl⟩) | (go_at_call 28; first | ((with_reducible refine (HS1.out _).mono ?_); rintro e w' ⟨rfl, rfl⟩) | ((with_reducible refine (HS2.out _).mono ?_); rintro e w' ⟨rfl, rfl⟩) | ((with_reducible refine (HP1.out _).mono ?_); rintro e w' ⟨rfl, rfl⟩) | ((with_reducible refine (HP2.out _).mono ?_); rintro e w' ⟨rfl, rfl⟩)) | (go_at_call 27; first | ((with_reducible refine (HQ1.out _).mono ?_); rintro e w' ⟨rfl, hb⟩; replace hB := below_more hB hb; clear hb) | ((with_reducible refine (HQ2.out _).mono ?_); rintro e w' ⟨rfl, hb⟩; replace hB := below_more hB hb; clear hb)))
      go_ret2
      exact ⟨rfl, hB⟩
     ·rw [if_neg h2]
      have h2' : decide (tp < rp) = false := decide_eq_false h2
      clear h1 h2
      go_enter Tryd.func17, Tryd.ntmps17
      go_wp2_with (first | (go_at_call 26; refine (rvalid_any _ _ _).mono ?_; rintro e w' ⟨rfl, rfl⟩) | (go_at_call 28; first | ((with_reducible refine (HS1.out _).mono ?_); rintro e w' ⟨rfl, rfl⟩) | ((with_reducible refine (HS2.out _).mono ?_); rintro e w' ⟨rfl, rfl⟩) | ((with_reducible refine (HP1.out _).mono ?_); rintro e w' ⟨rfl, rfl⟩) | ((with_reducible refine (HP2.out _).mono ?_); rintro e w' ⟨rfl, rfl⟩)) | (go_at_call 27; first | ((with_reducible refine (HQ1.out _).mono ?_); rintro e w' ⟨rfl, hb⟩; replace hB := below_more hB hb; clear hb) | ((with_reducible refine (HQ2.out _).mono ?_); rintro e w' ⟨rfl, hb⟩; replace hB := below_more hB hb; clear hb)))
      go_ret2
      exact ⟨rfl, hB⟩
   ·rw [if_neg hxy]
    have hne : (x == y) = false := by simpa using hxy
    clear a4 a5 a6 b4 b5 b6
    unfold cm
    by_cases h1 : x < y
    ·rw [if_pos h1]
     clear hxy
     go_enter Tryd.func17, Tryd.ntmps17
     go_wp2_with (first | (go_at_call 26; refine (rvalid_any _ _ _).mono ?_; rintro e w' ⟨rfl, rfl⟩) | (go_at_call 28; first | ((with_reducible refine (HS1.out _).mono ?_); rintro e w' ⟨rfl, rfl⟩) | ((with_reducible refine (HS2.out _).mono ?_); rintro e w' ⟨rfl, rfl⟩) | ((with_reducible refine (HP1.out _).mono ?_); rintro e w' ⟨rfl, rfl⟩) | ((with_reducible refine (HP2.out _).mono ?_); rintro e w' ⟨rfl, rfl⟩)) | (go_at_call 27; first | ((with_reducible refine (HQ1.out _).mono ?_); rintro e w' ⟨rfl, hb⟩; replace hB := below_more hB hb; clear hb) | ((with_reducible refine (HQ2.out _).mono ?_); rintro e w' ⟨rfl, hb⟩; replace hB := below_more hB hb; clear hb)))
     go_ret2
     exact ⟨rfl, hB⟩
    ·have h2 : y < x := by omega
     rw [if_neg h1, if_pos h2]
     have h1' : decide (x < y) = false := decide_eq_false h1
     clear hxy h1
     go_enter Tryd.func17, Tryd.ntmps17
     go_wp2_with (first | (go_at_call 26; refine (rvalid_any _ _ _).mono ?_; rintro e w' ⟨rfl, rfl⟩) | (go_at_call 28; first | ((with_reducible refine (HS1.out _).mono ?_); rintro e w' ⟨rfl, rfl⟩) | ((with_reducible refine (HS2.out _).mono ?_); rintro e w' ⟨rfl, rfl⟩) | ((with_reducible refine (HP1.out _).mono ?_); rintro e w' ⟨rfl, rfl⟩) | ((with_reducible refine (HP2.out _).mono ?_); rintro e w' ⟨rfl, rfl⟩)) | (go_at_call 27; first | ((with_reducible refine (HQ1.out _).mono ?_); rintro e w' ⟨rfl, hb⟩; replace hB := below_more hB hb; clear hb) | ((with_reducible refine (HQ2.out _).mono ?_); rintro e w' ⟨rfl, hb⟩; replace hB := below_more hB hb; clear hb)))
     go_ret2
     exact ⟨rfl, hB⟩
set_option maxHeartbeats 1600000 in
theorem law_dcompare (a sa b sb : Int) (w : World) (ht : DTab w.heap.size w) : Calls Tryd.prog 8 #[.agg #[.int .i64 a, .int .i64 sa], .agg #[.int .i64 b, .int .i64 sb]] w fun e w' => e = .returned (.bool true) ∧ Below w.heap.size w w' := by
 have hE : compE b sb a sa = compE a sa b sb := by unfold compE; rw [Bool.and_comm]
 have hV : compV b sb a sa = -(compV a sa b sb) := by
  unfold compV; rw [hE]
  by_cases h : compE a sa b sb = 0
  ·rw [if_pos h, if_pos h, cm_neg]
  ·rw [if_neg h, if_neg h]; rfl
 have hb : -1 ≤ compV a sa b sb ∧ compV a sa b sb ≤ 1 := by
  unfold compV
  by_cases h : compE a sa b sb = 0
  ·rw [if_pos h]; exact cm_bd _ _
  ·rw [if_neg h]; omega
 have h1 := fun w => dcompare_any a sa b sb w
 have h2 := fun w => drcompare_any a sa b sb w
 have h3 := fun w => dcompare_any b sb a sa w
 rw [hE, hV] at h3
 generalize compV a sa b sb = V at *
 generalize compE a sa b sb = E at *
 obtain ⟨v1, v2⟩ := hb
 have H1 := Lib.hid h1
 have H2 := Lib.hid h2
 have H3 := Lib.hid h3
 have HT := Lib.hid ht
 clear h1 h2 h3 ht hE hV
 have hB : Below w.heap.size w ((w.alloc (.cells #[.int .i64 a, .int .i64 sa] 33)).alloc (.cells #[.int .i64 b, .int .i64 sb] 33)) := ((Below.refl _ _).alloc (Nat.le_refl _) _).alloc (by simp) _
 have K1 : Hid (C2 ((w.alloc (.cells #[.int .i64 a, .int .i64 sa] 33)).alloc (.cells #[.int .i64 b, .int .i64 sb] 33)) w.heap.size (.int .i64 a) (.int .i64 sa)) := Lib.hid ⟨by simp, by simp, by simp; omega⟩
 have K2 : Hid (C2 ((w.alloc (.cells #[.int .i64 a, .int .i64 sa] 33)).alloc (.cells #[.int .i64 b, .int .i64 sb] 33)) (w.heap.size + 1) (.int .i64 b) (.int .i64 sb)) := Lib.hid ⟨by simp, by simp, by simp⟩
 go_enter Tryd.func8, Tryd.ntmps8
 go_wp2_with (first | (go_at_call 9; refine (dawake_any _ (DTab.up HT.out hB)).mono ?_; rintro e w' ⟨rfl, hb⟩; replace hB := below_more hB hb; replace K1 := c2up K1 hb; replace K2 := c2up K2 hb; clear hb; obtain ⟨p1, p2, p3⟩ := K1.out; obtain ⟨q1, q2, q3⟩ := K2.out) | (go_at_call 14; first | ((with_reducible refine (H1.out _).mono ?_); rintro e w' ⟨rfl, hb⟩; replace hB := below_more hB hb; replace K1 := c2up K1 hb; replace K2 := c2up K2 hb; clear hb; obtain ⟨p1, p2, p3⟩ := K1.out; obtain ⟨q1, q2, q3⟩ := K2.out) | ((with_reducible refine (H3.out _).mono ?_); rintro e w' ⟨rfl, hb⟩; replace hB := below_more hB hb; replace K1 := c2up K1 hb; replace K2 := c2up K2 hb; clear hb; obtain ⟨p1, p2, p3⟩ := K1.out; obtain ⟨q1, q2, q3⟩ := K2.out)) | (go_at_call 17; refine (H2.out _).mono ?_; rintro e w' ⟨rfl, hb⟩; replace hB := below_more hB hb; replace K1 := c2up K1 hb; replace K2 := c2up K2 hb; clear hb; obtain ⟨p1, p2, p3⟩ := K1.out; obtain ⟨q1, q2, q3⟩ := K2.out))
 go_ret
 exact ⟨rfl, hB⟩
end Go.Proofs.YtgihmikeapbpkabDoor
