/- Contracts of the functions that the statements reach, part 2: what was proved of each, callees first. -/
import Derived.Test.YteemgcbopafilaaDoorRows
import Derived.Handed
import Derived.ProofKit
import Derived.LaidMore
import Derived.Lay
import Derived.OpenShut
import Derived.Stop.Joined
import Derived.ChangeSame
import Derived.Lib.LaidTab
import Derived.ChangeSlices
import Derived.Carry
import Derived.Test.YteemgcbopafilaaDoorR1
namespace Go.Proofs.YteemgcbopafilaaDoor
open Go.RowKit
open AS (Keep NoInt)
theorem rnd_zero (m b : Int) (hm0 : 0 ≤ m) (hm1 : m ≤ 5) (hb : b ≠ 0) : rnd m 0 b = 0 := by
 have hc : m = 0 ∨ m = 1 ∨ m = 2 ∨ m = 3 ∨ m = 4 ∨ m = 5 := by omega
 have hd : (0 : Int) < (b.natAbs : Int) := by omega
 rcases hc with rfl | rfl | rfl | rfl | rfl | rfl <;> simp [rnd, rqN, upN, sgn] <;> omega
def rqFL (a b A B X R : Int) : List (Nat × AS.Fact) := [(21, AS.Fact.is (.int .i64 a)), (22, AS.Fact.is (.int .i64 A)), (23, AS.Fact.is (.int .i64 b)), (24, AS.Fact.is (.int .i64 B)), (25, AS.Fact.is (.int .i64 X)), (26, AS.Fact.is (.int .i64 a)), (27, AS.Fact.is (.int .i64 A)), (28, AS.Fact.is (.int .i64 b)), (29, AS.Fact.is (.int .i64 B)), (30, AS.Fact.is (.int .i64 R)), (31, AS.Fact.is (.int .i64 b)), (32, AS.Fact.is (.int .i64 B)), (8, AS.Fact.is (.int .i64 X)), (9, AS.Fact.is (.int .i64 R)), (10, AS.Fact.is (.int .i64 B))]
set_option maxRecDepth 20000 in
set_option maxHeartbeats 3200000 in
theorem rq_00 (m a b : Int) (w : World) (hm0 : 0 ≤ m) (hm1 : m ≤ 5) (h1 : 0 < a) (h2 : a ≤ 1000000000000000000) (h3 : 0 < b) (h4 : b ≤ 1000000000000000000) :
  Calls Tryd.prog 12 #[.int .i64 a, .int .i64 b, .int .i64 m] w fun e w' => e = .returned (.int .i64 (sgn false (rqN m false (a / b) (a % b) b))) ∧ Below w.heap.size w w' := by
 obtain ⟨z, hz⟩ : ∃ z, sgn false (rqN m false (a / b) (a % b) b) = z := ⟨_, rfl⟩
 rw [hz]
 have HZ := Lib.hid hz
 clear hz
 have q0 : 0 ≤ a / b := Int.ediv_nonneg (by omega) (by omega)
 have q2 : a / b ≤ 1000000000000000000 := Int.le_trans (Int.ediv_le_self _ (by omega)) h2
 have q3 : 0 ≤ a % b := Int.emod_nonneg _ (by omega)
 have q4 : a % b < b := Int.emod_lt_of_pos _ h3
 have hz : (b == 0) = false := by simp; omega
 have hza : (a == 0) = false := by simp; omega
 have hzb : (a != 0) = true := by simp; omega
 have hzc : (a == 0) = false := by simp; omega
 have h0 : 0 ≤ a := by omega
 have hs : ∀ w, Calls Tryd.prog 19 #[.int .i64 a] w fun e w' => e = .returned (.int .i64 a) ∧ w = w' := fun w => (size_any a w (by omega) (by omega)).mono fun _ _ h => by rw [show ((a : Int).natAbs : Int) = a by omega] at h; exact h
 have ht : ∀ w, Calls Tryd.prog 19 #[.int .i64 b] w fun e w' => e = .returned (.int .i64 b) ∧ w = w' := fun w => (size_any b w (by omega) (by omega)).mono fun _ _ h => by rw [show ((b : Int).natAbs : Int) = b by omega] at h; exact h
 have HS := Lib.hid hs
 have HT := Lib.hid ht
 clear hs ht
 have na : decide (a < 0) = false := decide_eq_false (by omega)
 have nb : decide (b < 0) = false := decide_eq_false (by omega)
 have hb0 : ¬ b = 0 := by omega
 have hdv : IntKind.i64.wrap ((a : Int).tdiv b) = a / b := by rw [Int.tdiv_eq_ediv_of_nonneg (by omega), IntKind.wrap_i64]; omega
 have hmd : (a : Int).tmod b = a % b := Int.tmod_eq_emod_of_nonneg (by omega)
 have HB0 := Lib.hid hb0
 have HDV := Lib.hid hdv
 have HMD := Lib.hid hmd
 have hw0 : IntKind.i64.wrap 0 = 0 := by rw [IntKind.wrap_i64]; rfl
 clear hb0 hdv hmd
 go_enter Tryd.func12, Tryd.ntmps12
 go_upto_region 2 with (fail)
 refine AS.region_facts (rqFL a b a b (a / b) (a % b)) (DNo w) [[], [21], [], [23], [22, 24], [], [26], [], [28], [27, 29], [], [31], [25], [30], [32]] [] [[]] [0, 0, 0, 0, 0, 0, 0, 0, 0, 0, 0, 0, 0, 0, 0] [] (fun u => by simp only [rqFL, AS.temps, List.map_cons, List.map_nil, fillL, List.setIfInBounds_toArray, List.set_cons_zero, List.set_cons_succ]; rfl) (by kernel_rfl) (by kernel_rfl) (DNo.st w) (dc_drew (Below.refl _ _)) ?_ ?_
 ·refine AS.sc rfl rfl rfl ?_ ?_
  ·intro k_ u w_ hk hJ hF K hK
   clear hF
   go_simp
   exact hK.out _ _ (Below.refl _ _) (rfl) trivial
  refine AS.sc rfl rfl rfl ?_ ?_
  ·intro k_ u w_ hk hJ hF K hK
   have h21 : u 21 = .int .i64 a := AS.facts_get hF 21 (by simp)
   clear hF
   simp only [h21] at hK ⊢
   clear h21
   go_simp
   refine (HS.out _).mono ?_
   rintro e w' ⟨rfl, rfl⟩
   exact hK.out _ _ (Below.refl _ _) rfl trivial
  refine AS.sc rfl rfl rfl ?_ ?_
  ·intro k_ u w_ hk hJ hF K hK
   clear hF
   go_simp
   exact hK.out _ _ (Below.refl _ _) (rfl) trivial
  refine AS.sc rfl rfl rfl ?_ ?_
  ·intro k_ u w_ hk hJ hF K hK
   have h23 : u 23 = .int .i64 b := AS.facts_get hF 23 (by simp)
   clear hF
   simp only [h23] at hK ⊢
   clear h23
   go_simp
   refine (HT.out _).mono ?_
   rintro e w' ⟨rfl, rfl⟩
   exact hK.out _ _ (Below.refl _ _) rfl trivial
  refine AS.sc rfl rfl rfl ?_ ?_
  ·intro k_ u w_ hk hJ hF K hK
   have h22 : u 22 = .int .i64 a := AS.facts_get hF 22 (by simp)
   have h24 : u 24 = .int .i64 b := AS.facts_get hF 24 (by simp)
   clear hF
   simp only [h22, h24] at hK ⊢
   clear h22 h24
   have o0 := HB0.out
   have o1 := HDV.out
   have o2 := HMD.out
   go_simp
   exact hK.out _ _ (Below.refl _ _) rfl trivial
  refine AS.sc rfl rfl rfl ?_ ?_
  ·intro k_ u w_ hk hJ hF K hK
   clear hF
   go_simp
   exact hK.out _ _ (Below.refl _ _) (rfl) trivial
  refine AS.sc rfl rfl rfl ?_ ?_
  ·intro k_ u w_ hk hJ hF K hK
   have h26 : u 26 = .int .i64 a := AS.facts_get hF 26 (by simp)
   clear hF
   simp only [h26] at hK ⊢
   clear h26
   go_simp
   refine (HS.out _).mono ?_
   rintro e w' ⟨rfl, rfl⟩
   exact hK.out _ _ (Below.refl _ _) rfl trivial
  refine AS.sc rfl rfl rfl ?_ ?_
  ·intro k_ u w_ hk hJ hF K hK
   clear hF
   go_simp
   exact hK.out _ _ (Below.refl _ _) (rfl) trivial
  refine AS.sc rfl rfl rfl ?_ ?_
  ·intro k_ u w_ hk hJ hF K hK
   have h28 : u 28 = .int .i64 b := AS.facts_get hF 28 (by simp)
   clear hF
   simp only [h28] at hK ⊢
   clear h28
   go_simp
   refine (HT.out _).mono ?_
   rintro e w' ⟨rfl, rfl⟩
   exact hK.out _ _ (Below.refl _ _) rfl trivial
  refine AS.sc rfl rfl rfl ?_ ?_
  ·intro k_ u w_ hk hJ hF K hK
   have h27 : u 27 = .int .i64 a := AS.facts_get hF 27 (by simp)
   have h29 : u 29 = .int .i64 b := AS.facts_get hF 29 (by simp)
   clear hF
   simp only [h27, h29] at hK ⊢
   clear h27 h29
   have o0 := HB0.out
   have o1 := HDV.out
   have o2 := HMD.out
   go_simp
   exact hK.out _ _ (Below.refl _ _) rfl trivial
  refine AS.sc rfl rfl rfl ?_ ?_
  ·intro k_ u w_ hk hJ hF K hK
   clear hF
   go_simp
   exact hK.out _ _ (Below.refl _ _) (rfl) trivial
  refine AS.sc rfl rfl rfl ?_ ?_
  ·intro k_ u w_ hk hJ hF K hK
   have h31 : u 31 = .int .i64 b := AS.facts_get hF 31 (by simp)
   clear hF
   simp only [h31] at hK ⊢
   clear h31
   go_simp
   refine (HT.out _).mono ?_
   rintro e w' ⟨rfl, rfl⟩
   exact hK.out _ _ (Below.refl _ _) rfl trivial
  refine AS.sc rfl rfl rfl ?_ ?_
  ·intro k_ u w_ hk hJ hF K hK
   have h25 : u 25 = .int .i64 (a / b) := AS.facts_get hF 25 (by simp)
   clear hF
   simp only [h25] at hK ⊢
   clear h25
   go_simp
   exact hK.out _ _ (Below.refl _ _) rfl trivial
  refine AS.sc rfl rfl rfl ?_ ?_
  ·intro k_ u w_ hk hJ hF K hK
   have h30 : u 30 = .int .i64 (a % b) := AS.facts_get hF 30 (by simp)
   clear hF
   simp only [h30] at hK ⊢
   clear h30
   go_simp
   exact hK.out _ _ (Below.refl _ _) rfl trivial
  refine AS.sc rfl rfl rfl ?_ ?_
  ·intro k_ u w_ hk hJ hF K hK
   have h32 : u 32 = .int .i64 b := AS.facts_get hF 32 (by simp)
   clear hF
   simp only [h32] at hK ⊢
   clear h32
   go_simp
   exact hK.out _ _ (Below.refl _ _) rfl trivial
  exact AS.StepsOk.nil
 ·intro u W3 hJ9 hF
  have h8 : u 8 = .int .i64 (a / b) := AS.facts_get hF 8 (by simp [rqFL, AS.temps])
  have h9 : u 9 = .int .i64 (a % b) := AS.facts_get hF 9 (by simp [rqFL, AS.temps])
  have h10 : u 10 = .int .i64 b := AS.facts_get hF 10 (by simp [rqFL, AS.temps])
  clear hF
  rw [show u 8 = _ from h8, show u 9 = _ from h9, show u 10 = _ from h10]
  clear h8 h9 h10
  generalize a / b = x at *
  generalize a % b = r at *
  have hc : m = 0 ∨ m = 1 ∨ m = 2 ∨ m = 3 ∨ m = 4 ∨ m = 5 := by omega
  clear hm0 hm1
  rcases hc with rfl | rfl | rfl | rfl | rfl | rfl
  ·by_cases hr : 2 * r < b
   all_goals
    go_wp2_with fail
    go_ret
    exact ⟨dret_int (by rw [← HZ.out]; simp [sgn, rqN, upN, hr] <;> omega), hJ9⟩
  ·by_cases hr : 2 * r = b
   ·have hr1 : b ≤ 2 * r := by omega
    by_cases hx : x % 2 = 0
    ·have hx1 : (x % 2 == 1) = false := by simp; omega
     have hr2 : (2 * r == b) = true := by simpa using hr
     have hr3 : decide (b < 2 * r) = false := decide_eq_false (by omega)
     have HR := Lib.hid hr
     have HX := Lib.hid hx
     clear hr hx
     go_wp2_with fail
     go_ret
     exact ⟨dret_int (by rw [← HZ.out]; simp [sgn, rqN, upN, HR.out, HX.out] <;> omega), hJ9⟩
    ·have hx1 : (x % 2 == 1) = true := by simp; omega
     have hr2 : (2 * r == b) = true := by simpa using hr
     have hr3 : decide (b < 2 * r) = false := decide_eq_false (by omega)
     have hr4 : r ≠ 0 := by omega
     have HR := Lib.hid hr
     have HX := Lib.hid hx
     have H4 := Lib.hid hr4
     clear hr hx hr4
     go_wp2_with fail
     go_ret
     exact ⟨dret_int (by rw [← HZ.out]; simp [sgn, rqN, upN, HR.out, HX.out, H4.out] <;> omega), hJ9⟩
   ·have hr2 : (2 * r == b) = false := by simpa using hr
    have HR := Lib.hid hr
    clear hr
    by_cases hl : b < 2 * r
    ·have hr4 : r ≠ 0 := by omega
     have hl2 : ¬ 2 * r < b := by omega
     have H4 := Lib.hid hr4
     have HL := Lib.hid hl2
     clear hr4 hl2
     go_wp2_with fail
     go_ret
     exact ⟨dret_int (by rw [← HZ.out]; simp [sgn, rqN, upN, HR.out, HL.out, H4.out] <;> omega), hJ9⟩
    ·have hl1 : decide (b < 2 * r) = false := decide_eq_false hl
     have hl2 : 2 * r < b := by have := HR.out; omega
     have HL := Lib.hid hl2
     clear hl hl2
     go_wp2_with fail
     go_ret
     exact ⟨dret_int (by rw [← HZ.out]; simp [sgn, rqN, upN, HR.out, HL.out] <;> omega), hJ9⟩
  ·go_wp2_with fail
   go_ret
   exact ⟨dret_int (by rw [← HZ.out]; simp [sgn, rqN, upN]), hJ9⟩
  ·by_cases hr : r = 0
   ·subst hr
    go_wp2_with fail
    go_ret
    exact ⟨dret_int (by rw [← HZ.out]; simp [sgn, rqN, upN]), hJ9⟩
   ·have hr1 : 0 < r := by omega
    have HR := Lib.hid hr
    clear hr
    go_wp2_with fail
    go_ret
    exact ⟨dret_int (by rw [← HZ.out]; simp [sgn, rqN, upN, HR.out] <;> omega), hJ9⟩
  ·by_cases hr : r = 0
   ·subst hr
    go_wp2_with fail
    go_ret
    exact ⟨dret_int (by rw [← HZ.out]; simp [sgn, rqN, upN]), hJ9⟩
   ·have hr1 : 0 < r := by omega
    have HR := Lib.hid hr
    clear hr
    go_wp2_with fail
    go_ret
    exact ⟨dret_int (by rw [← HZ.out]; simp [sgn, rqN, upN, HR.out] <;> omega), hJ9⟩
  ·by_cases hr : r = 0
   ·subst hr
    go_wp2_with fail
    go_ret
    exact ⟨dret_int (by rw [← HZ.out]; simp [sgn, rqN, upN]), hJ9⟩
   ·have hr1 : 0 < r := by omega
    have HR := Lib.hid hr
    clear hr
    go_wp2_with fail
    go_ret
    exact ⟨dret_int (by rw [← HZ.out]; simp [sgn, rqN, upN, HR.out] <;> omega), hJ9⟩
set_option maxRecDepth 20000 in
set_option maxHeartbeats 3200000 in
theorem rq_01 (m a b : Int) (w : World) (hm0 : 0 ≤ m) (hm1 : m ≤ 5) (h1 : 0 < a) (h2 : a ≤ 1000000000000000000) (h3 : 0 < b) (h4 : b ≤ 1000000000000000000) :
  Calls Tryd.prog 12 #[.int .i64 a, .int .i64 (-b), .int .i64 m] w fun e w' => e = .returned (.int .i64 (sgn true (rqN m true (a / b) (a % b) b))) ∧ Below w.heap.size w w' := by
 obtain ⟨z, hz⟩ : ∃ z, sgn true (rqN m true (a / b) (a % b) b) = z := ⟨_, rfl⟩
 rw [hz]
 have HZ := Lib.hid hz
 clear hz
 have q0 : 0 ≤ a / b := Int.ediv_nonneg (by omega) (by omega)
 have q2 : a / b ≤ 1000000000000000000 := Int.le_trans (Int.ediv_le_self _ (by omega)) h2
 have q3 : 0 ≤ a % b := Int.emod_nonneg _ (by omega)
 have q4 : a % b < b := Int.emod_lt_of_pos _ h3
 have hz : (b == 0) = false := by simp; omega
 have hza : (a == 0) = false := by simp; omega
 have hzb : (a != 0) = true := by simp; omega
 have hzc : (a == 0) = false := by simp; omega
 have h0 : 0 ≤ a := by omega
 have hs : ∀ w, Calls Tryd.prog 19 #[.int .i64 a] w fun e w' => e = .returned (.int .i64 a) ∧ w = w' := fun w => (size_any a w (by omega) (by omega)).mono fun _ _ h => by rw [show ((a : Int).natAbs : Int) = a by omega] at h; exact h
 have ht : ∀ w, Calls Tryd.prog 19 #[.int .i64 (-b)] w fun e w' => e = .returned (.int .i64 b) ∧ w = w' := fun w => (size_any (-b) w (by omega) (by omega)).mono fun _ _ h => by rw [show (((-b) : Int).natAbs : Int) = b by omega] at h; exact h
 have HS := Lib.hid hs
 have HT := Lib.hid ht
 clear hs ht
 have na : decide (a < 0) = false := decide_eq_false (by omega)
 have hb0 : ¬ b = 0 := by omega
 have hdv : IntKind.i64.wrap ((a : Int).tdiv b) = a / b := by rw [Int.tdiv_eq_ediv_of_nonneg (by omega), IntKind.wrap_i64]; omega
 have hmd : (a : Int).tmod b = a % b := Int.tmod_eq_emod_of_nonneg (by omega)
 have HB0 := Lib.hid hb0
 have HDV := Lib.hid hdv
 have HMD := Lib.hid hmd
 have hw0 : IntKind.i64.wrap 0 = 0 := by rw [IntKind.wrap_i64]; rfl
 clear hb0 hdv hmd
 go_enter Tryd.func12, Tryd.ntmps12
 go_upto_region 2 with (fail)
 refine AS.region_facts (rqFL a (-b) a b (a / b) (a % b)) (DNo w) [[], [21], [], [23], [22, 24], [], [26], [], [28], [27, 29], [], [31], [25], [30], [32]] [] [[]] [0, 0, 0, 0, 0, 0, 0, 0, 0, 0, 0, 0, 0, 0, 0] [] (fun u => by simp only [rqFL, AS.temps, List.map_cons, List.map_nil, fillL, List.setIfInBounds_toArray, List.set_cons_zero, List.set_cons_succ]; rfl) (by kernel_rfl) (by kernel_rfl) (DNo.st w) (dc_drew (Below.refl _ _)) ?_ ?_
 ·refine AS.sc rfl rfl rfl ?_ ?_
  ·intro k_ u w_ hk hJ hF K hK
   clear hF
   go_simp
   exact hK.out _ _ (Below.refl _ _) (rfl) trivial
  refine AS.sc rfl rfl rfl ?_ ?_
  ·intro k_ u w_ hk hJ hF K hK
   have h21 : u 21 = .int .i64 a := AS.facts_get hF 21 (by simp)
   clear hF
   simp only [h21] at hK ⊢
   clear h21
   go_simp
   refine (HS.out _).mono ?_
   rintro e w' ⟨rfl, rfl⟩
   exact hK.out _ _ (Below.refl _ _) rfl trivial
  refine AS.sc rfl rfl rfl ?_ ?_
  ·intro k_ u w_ hk hJ hF K hK
   clear hF
   go_simp
   exact hK.out _ _ (Below.refl _ _) (rfl) trivial
  refine AS.sc rfl rfl rfl ?_ ?_
  ·intro k_ u w_ hk hJ hF K hK
   have h23 : u 23 = .int .i64 (-b) := AS.facts_get hF 23 (by simp)
   clear hF
   simp only [h23] at hK ⊢
   clear h23
   go_simp
   refine (HT.out _).mono ?_
   rintro e w' ⟨rfl, rfl⟩
   exact hK.out _ _ (Below.refl _ _) rfl trivial
  refine AS.sc rfl rfl rfl ?_ ?_
  ·intro k_ u w_ hk hJ hF K hK
   have h22 : u 22 = .int .i64 a := AS.facts_get hF 22 (by simp)
   have h24 : u 24 = .int .i64 b := AS.facts_get hF 24 (by simp)
   clear hF
   simp only [h22, h24] at hK ⊢
   clear h22 h24
   have o0 := HB0.out
   have o1 := HDV.out
   have o2 := HMD.out
   go_simp
   exact hK.out _ _ (Below.refl _ _) rfl trivial
  refine AS.sc rfl rfl rfl ?_ ?_
  ·intro k_ u w_ hk hJ hF K hK
   clear hF
   go_simp
   exact hK.out _ _ (Below.refl _ _) (rfl) trivial
  refine AS.sc rfl rfl rfl ?_ ?_
  ·intro k_ u w_ hk hJ hF K hK
   have h26 : u 26 = .int .i64 a := AS.facts_get hF 26 (by simp)
   clear hF
   simp only [h26] at hK ⊢
   clear h26
   go_simp
   refine (HS.out _).mono ?_
   rintro e w' ⟨rfl, rfl⟩
   exact hK.out _ _ (Below.refl _ _) rfl trivial
  refine AS.sc rfl rfl rfl ?_ ?_
  ·intro k_ u w_ hk hJ hF K hK
   clear hF
   go_simp
   exact hK.out _ _ (Below.refl _ _) (rfl) trivial
  refine AS.sc rfl rfl rfl ?_ ?_
  ·intro k_ u w_ hk hJ hF K hK
   have h28 : u 28 = .int .i64 (-b) := AS.facts_get hF 28 (by simp)
   clear hF
   simp only [h28] at hK ⊢
   clear h28
   go_simp
   refine (HT.out _).mono ?_
   rintro e w' ⟨rfl, rfl⟩
   exact hK.out _ _ (Below.refl _ _) rfl trivial
  refine AS.sc rfl rfl rfl ?_ ?_
  ·intro k_ u w_ hk hJ hF K hK
   have h27 : u 27 = .int .i64 a := AS.facts_get hF 27 (by simp)
   have h29 : u 29 = .int .i64 b := AS.facts_get hF 29 (by simp)
   clear hF
   simp only [h27, h29] at hK ⊢
   clear h27 h29
   have o0 := HB0.out
   have o1 := HDV.out
   have o2 := HMD.out
   go_simp
   exact hK.out _ _ (Below.refl _ _) rfl trivial
  refine AS.sc rfl rfl rfl ?_ ?_
  ·intro k_ u w_ hk hJ hF K hK
   clear hF
   go_simp
   exact hK.out _ _ (Below.refl _ _) (rfl) trivial
  refine AS.sc rfl rfl rfl ?_ ?_
  ·intro k_ u w_ hk hJ hF K hK
   have h31 : u 31 = .int .i64 (-b) := AS.facts_get hF 31 (by simp)
   clear hF
   simp only [h31] at hK ⊢
   clear h31
   go_simp
   refine (HT.out _).mono ?_
   rintro e w' ⟨rfl, rfl⟩
   exact hK.out _ _ (Below.refl _ _) rfl trivial
  refine AS.sc rfl rfl rfl ?_ ?_
  ·intro k_ u w_ hk hJ hF K hK
   have h25 : u 25 = .int .i64 (a / b) := AS.facts_get hF 25 (by simp)
   clear hF
   simp only [h25] at hK ⊢
   clear h25
   go_simp
   exact hK.out _ _ (Below.refl _ _) rfl trivial
  refine AS.sc rfl rfl rfl ?_ ?_
  ·intro k_ u w_ hk hJ hF K hK
   have h30 : u 30 = .int .i64 (a % b) := AS.facts_get hF 30 (by simp)
   clear hF
   simp only [h30] at hK ⊢
   clear h30
   go_simp
   exact hK.out _ _ (Below.refl _ _) rfl trivial
  refine AS.sc rfl rfl rfl ?_ ?_
  ·intro k_ u w_ hk hJ hF K hK
   have h32 : u 32 = .int .i64 b := AS.facts_get hF 32 (by simp)
   clear hF
   simp only [h32] at hK ⊢
   clear h32
   go_simp
   exact hK.out _ _ (Below.refl _ _) rfl trivial
  exact AS.StepsOk.nil
 ·intro u W3 hJ9 hF
  have h8 : u 8 = .int .i64 (a / b) := AS.facts_get hF 8 (by simp [rqFL, AS.temps])
  have h9 : u 9 = .int .i64 (a % b) := AS.facts_get hF 9 (by simp [rqFL, AS.temps])
  have h10 : u 10 = .int .i64 b := AS.facts_get hF 10 (by simp [rqFL, AS.temps])
  clear hF
  rw [show u 8 = _ from h8, show u 9 = _ from h9, show u 10 = _ from h10]
  clear h8 h9 h10
  generalize a / b = x at *
  generalize a % b = r at *
  have hc : m = 0 ∨ m = 1 ∨ m = 2 ∨ m = 3 ∨ m = 4 ∨ m = 5 := by omega
  clear hm0 hm1
  rcases hc with rfl | rfl | rfl | rfl | rfl | rfl
  ·by_cases hr : 2 * r < b
   all_goals
    go_wp2_with fail
    go_ret
    exact ⟨dret_int (by rw [← HZ.out]; simp [sgn, rqN, upN, hr] <;> omega), hJ9⟩
  ·by_cases hr : 2 * r = b
   ·have hr1 : b ≤ 2 * r := by omega
    by_cases hx : x % 2 = 0
    ·have hx1 : (x % 2 == 1) = false := by simp; omega
     have hr2 : (2 * r == b) = true := by simpa using hr
     have hr3 : decide (b < 2 * r) = false := decide_eq_false (by omega)
     have HR := Lib.hid hr
     have HX := Lib.hid hx
     clear hr hx
     go_wp2_with fail
     go_ret
     exact ⟨dret_int (by rw [← HZ.out]; simp [sgn, rqN, upN, HR.out, HX.out] <;> omega), hJ9⟩
    ·have hx1 : (x % 2 == 1) = true := by simp; omega
     have hr2 : (2 * r == b) = true := by simpa using hr
     have hr3 : decide (b < 2 * r) = false := decide_eq_false (by omega)
     have hr4 : r ≠ 0 := by omega
     have HR := Lib.hid hr
     have HX := Lib.hid hx
     have H4 := Lib.hid hr4
     clear hr hx hr4
     go_wp2_with fail
     go_ret
     exact ⟨dret_int (by rw [← HZ.out]; simp [sgn, rqN, upN, HR.out, HX.out, H4.out] <;> omega), hJ9⟩
   ·have hr2 : (2 * r == b) = false := by simpa using hr
    have HR := Lib.hid hr
    clear hr
    by_cases hl : b < 2 * r
    ·have hr4 : r ≠ 0 := by omega
     have hl2 : ¬ 2 * r < b := by omega
     have H4 := Lib.hid hr4
     have HL := Lib.hid hl2
     clear hr4 hl2
     go_wp2_with fail
     go_ret
     exact ⟨dret_int (by rw [← HZ.out]; simp [sgn, rqN, upN, HR.out, HL.out, H4.out] <;> omega), hJ9⟩
    ·have hl1 : decide (b < 2 * r) = false := decide_eq_false hl
     have hl2 : 2 * r < b := by have := HR.out; omega
     have HL := Lib.hid hl2
     clear hl hl2
     go_wp2_with fail
     go_ret
     exact ⟨dret_int (by rw [← HZ.out]; simp [sgn, rqN, upN, HR.out, HL.out] <;> omega), hJ9⟩
  ·go_wp2_with fail
   go_ret
   exact ⟨dret_int (by rw [← HZ.out]; simp [sgn, rqN, upN]), hJ9⟩
  ·by_cases hr : r = 0
   ·subst hr
    go_wp2_with fail
    go_ret
    exact ⟨dret_int (by rw [← HZ.out]; simp [sgn, rqN, upN]), hJ9⟩
   ·have hr1 : 0 < r := by omega
    have HR := Lib.hid hr
    clear hr
    go_wp2_with fail
    go_ret
    exact ⟨dret_int (by rw [← HZ.out]; simp [sgn, rqN, upN, HR.out] <;> omega), hJ9⟩
  ·by_cases hr : r = 0
   ·subst hr
    go_wp2_with fail
    go_ret
    exact ⟨dret_int (by rw [← HZ.out]; simp [sgn, rqN, upN]), hJ9⟩
   ·have hr1 : 0 < r := by omega
    have HR := Lib.hid hr
    clear hr
    go_wp2_with fail
    go_ret
    exact ⟨dret_int (by rw [← HZ.out]; simp [sgn, rqN, upN, HR.out] <;> omega), hJ9⟩
  ·by_cases hr : r = 0
   ·subst hr
    go_wp2_with fail
    go_ret
    exact ⟨dret_int (by rw [← HZ.out]; simp [sgn, rqN, upN]), hJ9⟩
   ·have hr1 : 0 < r := by omega
    have HR := Lib.hid hr
    clear hr
    go_wp2_with fail
    go_ret
    exact ⟨dret_int (by rw [← HZ.out]; simp [sgn, rqN, upN, HR.out] <;> omega), hJ9⟩
set_option maxRecDepth 20000 in
set_option maxHeartbeats 3200000 in
theorem rq_10 (m a b : Int) (w : World) (hm0 : 0 ≤ m) (hm1 : m ≤ 5) (h1 : 0 < a) (h2 : a ≤ 1000000000000000000) (h3 : 0 < b) (h4 : b ≤ 1000000000000000000) :
  Calls Tryd.prog 12 #[.int .i64 (-a), .int .i64 b, .int .i64 m] w fun e w' => e = .returned (.int .i64 (sgn true (rqN m true (a / b) (a % b) b))) ∧ Below w.heap.size w w' := by
 obtain ⟨z, hz⟩ : ∃ z, sgn true (rqN m true (a / b) (a % b) b) = z := ⟨_, rfl⟩
 rw [hz]
 have HZ := Lib.hid hz
 clear hz
 have q0 : 0 ≤ a / b := Int.ediv_nonneg (by omega) (by omega)
 have q2 : a / b ≤ 1000000000000000000 := Int.le_trans (Int.ediv_le_self _ (by omega)) h2
 have q3 : 0 ≤ a % b := Int.emod_nonneg _ (by omega)
 have q4 : a % b < b := Int.emod_lt_of_pos _ h3
 have hz : (b == 0) = false := by simp; omega
 have hza : (a == 0) = false := by simp; omega
 have hzb : ((-a) != 0) = true := by simp; omega
 have hzc : ((-a) == 0) = false := by simp; omega
 have h0 : 0 ≤ a := by omega
 have hs : ∀ w, Calls Tryd.prog 19 #[.int .i64 (-a)] w fun e w' => e = .returned (.int .i64 a) ∧ w = w' := fun w => (size_any (-a) w (by omega) (by omega)).mono fun _ _ h => by rw [show (((-a) : Int).natAbs : Int) = a by omega] at h; exact h
 have ht : ∀ w, Calls Tryd.prog 19 #[.int .i64 b] w fun e w' => e = .returned (.int .i64 b) ∧ w = w' := fun w => (size_any b w (by omega) (by omega)).mono fun _ _ h => by rw [show ((b : Int).natAbs : Int) = b by omega] at h; exact h
 have HS := Lib.hid hs
 have HT := Lib.hid ht
 clear hs ht
 have nb : decide (b < 0) = false := decide_eq_false (by omega)
 have hb0 : ¬ b = 0 := by omega
 have hdv : IntKind.i64.wrap ((a : Int).tdiv b) = a / b := by rw [Int.tdiv_eq_ediv_of_nonneg (by omega), IntKind.wrap_i64]; omega
 have hmd : (a : Int).tmod b = a % b := Int.tmod_eq_emod_of_nonneg (by omega)
 have HB0 := Lib.hid hb0
 have HDV := Lib.hid hdv
 have HMD := Lib.hid hmd
 have hw0 : IntKind.i64.wrap 0 = 0 := by rw [IntKind.wrap_i64]; rfl
 clear hb0 hdv hmd
 go_enter Tryd.func12, Tryd.ntmps12
 go_upto_region 2 with (fail)
 refine AS.region_facts (rqFL (-a) b a b (a / b) (a % b)) (DNo w) [[], [21], [], [23], [22, 24], [], [26], [], [28], [27, 29], [], [31], [25], [30], [32]] [] [[]] [0, 0, 0, 0, 0, 0, 0, 0, 0, 0, 0, 0, 0, 0, 0] [] (fun u => by simp only [rqFL, AS.temps, List.map_cons, List.map_nil, fillL, List.setIfInBounds_toArray, List.set_cons_zero, List.set_cons_succ]; rfl) (by kernel_rfl) (by kernel_rfl) (DNo.st w) (dc_drew (Below.refl _ _)) ?_ ?_
 ·refine AS.sc rfl rfl rfl ?_ ?_
  ·intro k_ u w_ hk hJ hF K hK
   clear hF
   go_simp
   exact hK.out _ _ (Below.refl _ _) (rfl) trivial
  refine AS.sc rfl rfl rfl ?_ ?_
  ·intro k_ u w_ hk hJ hF K hK
   have h21 : u 21 = .int .i64 (-a) := AS.facts_get hF 21 (by simp)
   clear hF
   simp only [h21] at hK ⊢
   clear h21
   go_simp
   refine (HS.out _).mono ?_
   rintro e w' ⟨rfl, rfl⟩
   exact hK.out _ _ (Below.refl _ _) rfl trivial
  refine AS.sc rfl rfl rfl ?_ ?_
  ·intro k_ u w_ hk hJ hF K hK
   clear hF
   go_simp
   exact hK.out _ _ (Below.refl _ _) (rfl) trivial
  refine AS.sc rfl rfl rfl ?_ ?_
  ·intro k_ u w_ hk hJ hF K hK
   have h23 : u 23 = .int .i64 b := AS.facts_get hF 23 (by simp)
   clear hF
   simp only [h23] at hK ⊢
   clear h23
   go_simp
   refine (HT.out _).mono ?_
   rintro e w' ⟨rfl, rfl⟩
   exact hK.out _ _ (Below.refl _ _) rfl trivial
  refine AS.sc rfl rfl rfl ?_ ?_
  ·intro k_ u w_ hk hJ hF K hK
   have h22 : u 22 = .int .i64 a := AS.facts_get hF 22 (by simp)
   have h24 : u 24 = .int .i64 b := AS.facts_get hF 24 (by simp)
   clear hF
   simp only [h22, h24] at hK ⊢
   clear h22 h24
   have o0 := HB0.out
   have o1 := HDV.out
   have o2 := HMD.out
   go_simp
   exact hK.out _ _ (Below.refl _ _) rfl trivial
  refine AS.sc rfl rfl rfl ?_ ?_
  ·intro k_ u w_ hk hJ hF K hK
   clear hF
   go_simp
   exact hK.out _ _ (Below.refl _ _) (rfl) trivial
  refine AS.sc rfl rfl rfl ?_ ?_
  ·intro k_ u w_ hk hJ hF K hK
   have h26 : u 26 = .int .i64 (-a) := AS.facts_get hF 26 (by simp)
   clear hF
   simp only [h26] at hK ⊢
   clear h26
   go_simp
   refine (HS.out _).mono ?_
   rintro e w' ⟨rfl, rfl⟩
   exact hK.out _ _ (Below.refl _ _) rfl trivial
  refine AS.sc rfl rfl rfl ?_ ?_
  ·intro k_ u w_ hk hJ hF K hK
   clear hF
   go_simp
   exact hK.out _ _ (Below.refl _ _) (rfl) trivial
  refine AS.sc rfl rfl rfl ?_ ?_
  ·intro k_ u w_ hk hJ hF K hK
   have h28 : u 28 = .int .i64 b := AS.facts_get hF 28 (by simp)
   clear hF
   simp only [h28] at hK ⊢
   clear h28
   go_simp
   refine (HT.out _).mono ?_
   rintro e w' ⟨rfl, rfl⟩
   exact hK.out _ _ (Below.refl _ _) rfl trivial
  refine AS.sc rfl rfl rfl ?_ ?_
  ·intro k_ u w_ hk hJ hF K hK
   have h27 : u 27 = .int .i64 a := AS.facts_get hF 27 (by simp)
   have h29 : u 29 = .int .i64 b := AS.facts_get hF 29 (by simp)
   clear hF
   simp only [h27, h29] at hK ⊢
   clear h27 h29
   have o0 := HB0.out
   have o1 := HDV.out
   have o2 := HMD.out
   go_simp
   exact hK.out _ _ (Below.refl _ _) rfl trivial
  refine AS.sc rfl rfl rfl ?_ ?_
  ·intro k_ u w_ hk hJ hF K hK
   clear hF
   go_simp
   exact hK.out _ _ (Below.refl _ _) (rfl) trivial
  refine AS.sc rfl rfl rfl ?_ ?_
  ·intro k_ u w_ hk hJ hF K hK
   have h31 : u 31 = .int .i64 b := AS.facts_get hF 31 (by simp)
   clear hF
   simp only [h31] at hK ⊢
   clear h31
   go_simp
   refine (HT.out _).mono ?_
   rintro e w' ⟨rfl, rfl⟩
   exact hK.out _ _ (Below.refl _ _) rfl trivial
  refine AS.sc rfl rfl rfl ?_ ?_
  ·intro k_ u w_ hk hJ hF K hK
   have h25 : u 25 = .int .i64 (a / b) := AS.facts_get hF 25 (by simp)
   clear hF
   simp only [h25] at hK ⊢
   clear h25
   go_simp
   exact hK.out _ _ (Below.refl _ _) rfl trivial
  refine AS.sc rfl rfl rfl ?_ ?_
  ·intro k_ u w_ hk hJ hF K hK
   have h30 : u 30 = .int .i64 (a % b) := AS.facts_get hF 30 (by simp)
   clear hF
   simp only [h30] at hK ⊢
   clear h30
   go_simp
   exact hK.out _ _ (Below.refl _ _) rfl trivial
  refine AS.sc rfl rfl rfl ?_ ?_
  ·intro k_ u w_ hk hJ hF K hK
   have h32 : u 32 = .int .i64 b := AS.facts_get hF 32 (by simp)
   clear hF
   simp only [h32] at hK ⊢
   clear h32
   go_simp
   exact hK.out _ _ (Below.refl _ _) rfl trivial
  exact AS.StepsOk.nil
 ·intro u W3 hJ9 hF
  have h8 : u 8 = .int .i64 (a / b) := AS.facts_get hF 8 (by simp [rqFL, AS.temps])
  have h9 : u 9 = .int .i64 (a % b) := AS.facts_get hF 9 (by simp [rqFL, AS.temps])
  have h10 : u 10 = .int .i64 b := AS.facts_get hF 10 (by simp [rqFL, AS.temps])
  clear hF
  rw [show u 8 = _ from h8, show u 9 = _ from h9, show u 10 = _ from h10]
  clear h8 h9 h10
  generalize a / b = x at *
  generalize a % b = r at *
  have hc : m = 0 ∨ m = 1 ∨ m = 2 ∨ m = 3 ∨ m = 4 ∨ m = 5 := by omega
  clear hm0 hm1
  rcases hc with rfl | rfl | rfl | rfl | rfl | rfl
  ·by_cases hr : 2 * r < b
   all_goals
    go_wp2_with fail
    go_ret
    exact ⟨dret_int (by rw [← HZ.out]; simp [sgn, rqN, upN, hr] <;> omega), hJ9⟩
  ·by_cases hr : 2 * r = b
   ·have hr1 : b ≤ 2 * r := by omega
    by_cases hx : x % 2 = 0
    ·have hx1 : (x % 2 == 1) = false := by simp; omega
     have hr2 : (2 * r == b) = true := by simpa using hr
     have hr3 : decide (b < 2 * r) = false := decide_eq_false (by omega)
     have HR := Lib.hid hr
     have HX := Lib.hid hx
     clear hr hx
     go_wp2_with fail
     go_ret
     exact ⟨dret_int (by rw [← HZ.out]; simp [sgn, rqN, upN, HR.out, HX.out] <;> omega), hJ9⟩
    ·have hx1 : (x % 2 == 1) = true := by simp; omega
     have hr2 : (2 * r == b) = true := by simpa using hr
     have hr3 : decide (b < 2 * r) = false := decide_eq_false (by omega)
     have hr4 : r ≠ 0 := by omega
     have HR := Lib.hid hr
     have HX := Lib.hid hx
     have H4 := Lib.hid hr4
     clear hr hx hr4
     go_wp2_with fail
     go_ret
     exact ⟨dret_int (by rw [← HZ.out]; simp [sgn, rqN, upN, HR.out, HX.out, H4.out] <;> omega), hJ9⟩
   ·have hr2 : (2 * r == b) = false := by simpa using hr
    have HR := Lib.hid hr
    clear hr
    by_cases hl : b < 2 * r
    ·have hr4 : r ≠ 0 := by omega
     have hl2 : ¬ 2 * r < b := by omega
     have H4 := Lib.hid hr4
     have HL := Lib.hid hl2
     clear hr4 hl2
     go_wp2_with fail
     go_ret
     exact ⟨dret_int (by rw [← HZ.out]; simp [sgn, rqN, upN, HR.out, HL.out, H4.out] <;> omega), hJ9⟩
    ·have hl1 : decide (b < 2 * r) = false := decide_eq_false hl
     have hl2 : 2 * r < b := by have := HR.out; omega
     have HL := Lib.hid hl2
     clear hl hl2
     go_wp2_with fail
     go_ret
     exact ⟨dret_int (by rw [← HZ.out]; simp [sgn, rqN, upN, HR.out, HL.out] <;> omega), hJ9⟩
  ·go_wp2_with fail
   go_ret
   exact ⟨dret_int (by rw [← HZ.out]; simp [sgn, rqN, upN]), hJ9⟩
  ·by_cases hr : r = 0
   ·subst hr
    go_wp2_with fail
    go_ret
    exact ⟨dret_int (by rw [← HZ.out]; simp [sgn, rqN, upN]), hJ9⟩
   ·have hr1 : 0 < r := by omega
    have HR := Lib.hid hr
    clear hr
    go_wp2_with fail
    go_ret
    exact ⟨dret_int (by rw [← HZ.out]; simp [sgn, rqN, upN, HR.out] <;> omega), hJ9⟩
  ·by_cases hr : r = 0
   ·subst hr
    go_wp2_with fail
    go_ret
    exact ⟨dret_int (by rw [← HZ.out]; simp [sgn, rqN, upN]), hJ9⟩
   ·have hr1 : 0 < r := by omega
    have HR := Lib.hid hr
    clear hr
    go_wp2_with fail
    go_ret
    exact ⟨dret_int (by rw [← HZ.out]; simp [sgn, rqN, upN, HR.out] <;> omega), hJ9⟩
  ·by_cases hr : r = 0
   ·subst hr
    go_wp2_with fail
    go_ret
    exact ⟨dret_int (by rw [← HZ.out]; simp [sgn, rqN, upN]), hJ9⟩
   ·have hr1 : 0 < r := by omega
    have HR := Lib.hid hr
    clear hr
    go_wp2_with fail
    go_ret
    exact ⟨dret_int (by rw [← HZ.out]; simp [sgn, rqN, upN, HR.out] <;> omega), hJ9⟩
set_option maxRecDepth 20000 in
set_option maxHeartbeats 3200000 in
theorem rq_11 (m a b : Int) (w : World) (hm0 : 0 ≤ m) (hm1 : m ≤ 5) (h1 : 0 < a) (h2 : a ≤ 1000000000000000000) (h3 : 0 < b) (h4 : b ≤ 1000000000000000000) :
  Calls Tryd.prog 12 #[.int .i64 (-a), .int .i64 (-b), .int .i64 m] w fun e w' => e = .returned (.int .i64 (sgn false (rqN m false (a / b) (a % b) b))) ∧ Below w.heap.size w w' := by
 obtain ⟨z, hz⟩ : ∃ z, sgn false (rqN m false (a / b) (a % b) b) = z := ⟨_, rfl⟩
 rw [hz]
 have HZ := Lib.hid hz
 clear hz
 have q0 : 0 ≤ a / b := Int.ediv_nonneg (by omega) (by omega)
 have q2 : a / b ≤ 1000000000000000000 := Int.le_trans (Int.ediv_le_self _ (by omega)) h2
 have q3 : 0 ≤ a % b := Int.emod_nonneg _ (by omega)
 have q4 : a % b < b := Int.emod_lt_of_pos _ h3
 have hz : (b == 0) = false := by simp; omega
 have hza : (a == 0) = false := by simp; omega
 have hzb : ((-a) != 0) = true := by simp; omega
 have hzc : ((-a) == 0) = false := by simp; omega
 have h0 : 0 ≤ a := by omega
 have hs : ∀ w, Calls Tryd.prog 19 #[.int .i64 (-a)] w fun e w' => e = .returned (.int .i64 a) ∧ w = w' := fun w => (size_any (-a) w (by omega) (by omega)).mono fun _ _ h => by rw [show (((-a) : Int).natAbs : Int) = a by omega] at h; exact h
 have ht : ∀ w, Calls Tryd.prog 19 #[.int .i64 (-b)] w fun e w' => e = .returned (.int .i64 b) ∧ w = w' := fun w => (size_any (-b) w (by omega) (by omega)).mono fun _ _ h => by rw [show (((-b) : Int).natAbs : Int) = b by omega] at h; exact h
 have HS := Lib.hid hs
 have HT := Lib.hid ht
 clear hs ht
 have hb0 : ¬ b = 0 := by omega
 have hdv : IntKind.i64.wrap ((a : Int).tdiv b) = a / b := by rw [Int.tdiv_eq_ediv_of_nonneg (by omega), IntKind.wrap_i64]; omega
 have hmd : (a : Int).tmod b = a % b := Int.tmod_eq_emod_of_nonneg (by omega)
 have HB0 := Lib.hid hb0
 have HDV := Lib.hid hdv
 have HMD := Lib.hid hmd
 have hw0 : IntKind.i64.wrap 0 = 0 := by rw [IntKind.wrap_i64]; rfl
 clear hb0 hdv hmd
 go_enter Tryd.func12, Tryd.ntmps12
 go_upto_region 2 with (fail)
 refine AS.region_facts (rqFL (-a) (-b) a b (a / b) (a % b)) (DNo w) [[], [21], [], [23], [22, 24], [], [26], [], [28], [27, 29], [], [31], [25], [30], [32]] [] [[]] [0, 0, 0, 0, 0, 0, 0, 0, 0, 0, 0, 0, 0, 0, 0] [] (fun u => by simp only [rqFL, AS.temps, List.map_cons, List.map_nil, fillL, List.setIfInBounds_toArray, List.set_cons_zero, List.set_cons_succ]; rfl) (by kernel_rfl) (by kernel_rfl) (DNo.st w) (dc_drew (Below.refl _ _)) ?_ ?_
 ·refine AS.sc rfl rfl rfl ?_ ?_
  ·intro k_ u w_ hk hJ hF K hK
   clear hF
   go_simp
   exact hK.out _ _ (Below.refl _ _) (rfl) trivial
  refine AS.sc rfl rfl rfl ?_ ?_
  ·intro k_ u w_ hk hJ hF K hK
   have h21 : u 21 = .int .i64 (-a) := AS.facts_get hF 21 (by simp)
   clear hF
   simp only [h21] at hK ⊢
   clear h21
   go_simp
   refine (HS.out _).mono ?_
   rintro e w' ⟨rfl, rfl⟩
   exact hK.out _ _ (Below.refl _ _) rfl trivial
  refine AS.sc rfl rfl rfl ?_ ?_
  ·intro k_ u w_ hk hJ hF K hK
   clear hF
   go_simp
   exact hK.out _ _ (Below.refl _ _) (rfl) trivial
  refine AS.sc rfl rfl rfl ?_ ?_
  ·intro k_ u w_ hk hJ hF K hK
   have h23 : u 23 = .int .i64 (-b) := AS.facts_get hF 23 (by simp)
   clear hF
   simp only [h23] at hK ⊢
   clear h23
   go_simp
   refine (HT.out _).mono ?_
   rintro e w' ⟨rfl, rfl⟩
   exact hK.out _ _ (Below.refl _ _) rfl trivial
  refine AS.sc rfl rfl rfl ?_ ?_
  ·intro k_ u w_ hk hJ hF K hK
   have h22 : u 22 = .int .i64 a := AS.facts_get hF 22 (by simp)
   have h24 : u 24 = .int .i64 b := AS.facts_get hF 24 (by simp)
   clear hF
   simp only [h22, h24] at hK ⊢
   clear h22 h24
   have o0 := HB0.out
   have o1 := HDV.out
   have o2 := HMD.out
   go_simp
   exact hK.out _ _ (Below.refl _ _) rfl trivial
  refine AS.sc rfl rfl rfl ?_ ?_
  ·intro k_ u w_ hk hJ hF K hK
   clear hF
   go_simp
   exact hK.out _ _ (Below.refl _ _) (rfl) trivial
  refine AS.sc rfl rfl rfl ?_ ?_
  ·intro k_ u w_ hk hJ hF K hK
   have h26 : u 26 = .int .i64 (-a) := AS.facts_get hF 26 (by simp)
   clear hF
   simp only [h26] at hK ⊢
   clear h26
   go_simp
   refine (HS.out _).mono ?_
   rintro e w' ⟨rfl, rfl⟩
   exact hK.out _ _ (Below.refl _ _) rfl trivial
  refine AS.sc rfl rfl rfl ?_ ?_
  ·intro k_ u w_ hk hJ hF K hK
   clear hF
   go_simp
   exact hK.out _ _ (Below.refl _ _) (rfl) trivial
  refine AS.sc rfl rfl rfl ?_ ?_
  ·intro k_ u w_ hk hJ hF K hK
   have h28 : u 28 = .int .i64 (-b) := AS.facts_get hF 28 (by simp)
   clear hF
   simp only [h28] at hK ⊢
   clear h28
   go_simp
   refine (HT.out _).mono ?_
   rintro e w' ⟨rfl, rfl⟩
   exact hK.out _ _ (Below.refl _ _) rfl trivial
  refine AS.sc rfl rfl rfl ?_ ?_
  ·intro k_ u w_ hk hJ hF K hK
   have h27 : u 27 = .int .i64 a := AS.facts_get hF 27 (by simp)
   have h29 : u 29 = .int .i64 b := AS.facts_get hF 29 (by simp)
   clear hF
   simp only [h27, h29] at hK ⊢
   clear h27 h29
   have o0 := HB0.out
   have o1 := HDV.out
   have o2 := HMD.out
   go_simp
   exact hK.out _ _ (Below.refl _ _) rfl trivial
  refine AS.sc rfl rfl rfl ?_ ?_
  ·intro k_ u w_ hk hJ hF K hK
   clear hF
   go_simp
   exact hK.out _ _ (Below.refl _ _) (rfl) trivial
  refine AS.sc rfl rfl rfl ?_ ?_
  ·intro k_ u w_ hk hJ hF K hK
   have h31 : u 31 = .int .i64 (-b) := AS.facts_get hF 31 (by simp)
   clear hF
   simp only [h31] at hK ⊢
   clear h31
   go_simp
   refine (HT.out _).mono ?_
   rintro e w' ⟨rfl, rfl⟩
   exact hK.out _ _ (Below.refl _ _) rfl trivial
  refine AS.sc rfl rfl rfl ?_ ?_
  ·intro k_ u w_ hk hJ hF K hK
   have h25 : u 25 = .int .i64 (a / b) := AS.facts_get hF 25 (by simp)
   clear hF
   simp only [h25] at hK ⊢
   clear h25
   go_simp
   exact hK.out _ _ (Below.refl _ _) rfl trivial
  refine AS.sc rfl rfl rfl ?_ ?_
  ·intro k_ u w_ hk hJ hF K hK
   have h30 : u 30 = .int .i64 (a % b) := AS.facts_get hF 30 (by simp)
   clear hF
   simp only [h30] at hK ⊢
   clear h30
   go_simp
   exact hK.out _ _ (Below.refl _ _) rfl trivial
  refine AS.sc rfl rfl rfl ?_ ?_
  ·intro k_ u w_ hk hJ hF K hK
   have h32 : u 32 = .int .i64 b := AS.facts_get hF 32 (by simp)
   clear hF
   simp only [h32] at hK ⊢
   clear h32
   go_simp
   exact hK.out _ _ (Below.refl _ _) rfl trivial
  exact AS.StepsOk.nil
 ·intro u W3 hJ9 hF
  have h8 : u 8 = .int .i64 (a / b) := AS.facts_get hF 8 (by simp [rqFL, AS.temps])
  have h9 : u 9 = .int .i64 (a % b) := AS.facts_get hF 9 (by simp [rqFL, AS.temps])
  have h10 : u 10 = .int .i64 b := AS.facts_get hF 10 (by simp [rqFL, AS.temps])
  clear hF
  rw [show u 8 = _ from h8, show u 9 = _ from h9, show u 10 = _ from h10]
  clear h8 h9 h10
  generalize a / b = x at *
  generalize a % b = r at *
  have hc : m = 0 ∨ m = 1 ∨ m = 2 ∨ m = 3 ∨ m = 4 ∨ m = 5 := by omega
  clear hm0 hm1
  rcases hc with rfl | rfl | rfl | rfl | rfl | rfl
  ·by_cases hr : 2 * r < b
   all_goals
    go_wp2_with fail
    go_ret
    exact ⟨dret_int (by rw [← HZ.out]; simp [sgn, rqN, upN, hr] <;> omega), hJ9⟩
  ·by_cases hr : 2 * r = b
   ·have hr1 : b ≤ 2 * r := by omega
    by_cases hx : x % 2 = 0
    ·have hx1 : (x % 2 == 1) = false := by simp; omega
     have hr2 : (2 * r == b) = true := by simpa using hr
     have hr3 : decide (b < 2 * r) = false := decide_eq_false (by omega)
     have HR := Lib.hid hr
     have HX := Lib.hid hx
     clear hr hx
     go_wp2_with fail
     go_ret
     exact ⟨dret_int (by rw [← HZ.out]; simp [sgn, rqN, upN, HR.out, HX.out] <;> omega), hJ9⟩
    ·have hx1 : (x % 2 == 1) = true := by simp; omega
     have hr2 : (2 * r == b) = true := by simpa using hr
     have hr3 : decide (b < 2 * r) = false := decide_eq_false (by omega)
     have hr4 : r ≠ 0 := by omega
     have HR := Lib.hid hr
     have HX := Lib.hid hx
     have H4 := Lib.hid hr4
     clear hr hx hr4
     go_wp2_with fail
     go_ret
     exact ⟨dret_int (by rw [← HZ.out]; simp [sgn, rqN, upN, HR.out, HX.out, H4.out] <;> omega), hJ9⟩
   ·have hr2 : (2 * r == b) = false := by simpa using hr
    have HR := Lib.hid hr
    clear hr
    by_cases hl : b < 2 * r
    ·have hr4 : r ≠ 0 := by omega
     have hl2 : ¬ 2 * r < b := by omega
     have H4 := Lib.hid hr4
     have HL := Lib.hid hl2
     clear hr4 hl2
     go_wp2_with fail
     go_ret
     exact ⟨dret_int (by rw [← HZ.out]; simp [sgn, rqN, upN, HR.out, HL.out, H4.out] <;> omega), hJ9⟩
    ·have hl1 : decide (b < 2 * r) = false := decide_eq_false hl
     have hl2 : 2 * r < b := by have := HR.out; omega
     have HL := Lib.hid hl2
     clear hl hl2
     go_wp2_with fail
     go_ret
     exact ⟨dret_int (by rw [← HZ.out]; simp [sgn, rqN, upN, HR.out, HL.out] <;> omega), hJ9⟩
  ·go_wp2_with fail
   go_ret
   exact ⟨dret_int (by rw [← HZ.out]; simp [sgn, rqN, upN]), hJ9⟩
  ·by_cases hr : r = 0
   ·subst hr
    go_wp2_with fail
    go_ret
    exact ⟨dret_int (by rw [← HZ.out]; simp [sgn, rqN, upN]), hJ9⟩
   ·have hr1 : 0 < r := by omega
    have HR := Lib.hid hr
    clear hr
    go_wp2_with fail
    go_ret
    exact ⟨dret_int (by rw [← HZ.out]; simp [sgn, rqN, upN, HR.out] <;> omega), hJ9⟩
  ·by_cases hr : r = 0
   ·subst hr
    go_wp2_with fail
    go_ret
    exact ⟨dret_int (by rw [← HZ.out]; simp [sgn, rqN, upN]), hJ9⟩
   ·have hr1 : 0 < r := by omega
    have HR := Lib.hid hr
    clear hr
    go_wp2_with fail
    go_ret
    exact ⟨dret_int (by rw [← HZ.out]; simp [sgn, rqN, upN, HR.out] <;> omega), hJ9⟩
  ·by_cases hr : r = 0
   ·subst hr
    go_wp2_with fail
    go_ret
    exact ⟨dret_int (by rw [← HZ.out]; simp [sgn, rqN, upN]), hJ9⟩
   ·have hr1 : 0 < r := by omega
    have HR := Lib.hid hr
    clear hr
    go_wp2_with fail
    go_ret
    exact ⟨dret_int (by rw [← HZ.out]; simp [sgn, rqN, upN, HR.out] <;> omega), hJ9⟩
set_option maxRecDepth 20000 in
set_option maxHeartbeats 3200000 in
theorem rq_20 (m b : Int) (w : World) (hm0 : 0 ≤ m) (hm1 : m ≤ 5) (h3 : b ≠ 0) (h4 : -1000000000000000000 ≤ b) (h5 : b ≤ 1000000000000000000) :
  Calls Tryd.prog 12 #[.int .i64 0, .int .i64 b, .int .i64 m] w fun e w' => e = .returned (.int .i64 (0)) ∧ Below w.heap.size w w' := by
 have hs : ∀ w, Calls Tryd.prog 19 #[.int .i64 0] w fun e w' => e = .returned (.int .i64 0) ∧ w = w' := fun w => size_any 0 w (by omega) (by omega)
 have ht : ∀ w, Calls Tryd.prog 19 #[.int .i64 b] w fun e w' => e = .returned (.int .i64 (b.natAbs : Int)) ∧ w = w' := fun w => size_any b w (by omega) (by omega)
 have HS := Lib.hid hs
 have HT := Lib.hid ht
 obtain ⟨B, hB⟩ : ∃ B, (b.natAbs : Int) = B := ⟨_, rfl⟩
 have hB0 : 0 < B := by omega
 rw [hB] at HT
 clear hs ht hB h3 h4 h5
 have hz : (B == 0) = false := by simp; omega
 have q0 : (0 : Int) / B = 0 := Int.zero_ediv _
 have q1 : (0 : Int) % B = 0 := Int.zero_emod _
 have Q0 := Lib.hid q0
 have Q1 := Lib.hid q1
 clear q0 q1
 have hb0 : ¬ B = 0 := by omega
 have hdv : IntKind.i64.wrap ((0 : Int).tdiv B) = 0 / B := by rw [Int.tdiv_eq_ediv_of_nonneg (by omega), IntKind.wrap_i64]; rw [Q0.out]; rfl
 have hmd : (0 : Int).tmod B = 0 % B := Int.tmod_eq_emod_of_nonneg (by omega)
 have HB0 := Lib.hid hb0
 have HDV := Lib.hid hdv
 have HMD := Lib.hid hmd
 have hw0 : IntKind.i64.wrap 0 = 0 := by rw [IntKind.wrap_i64]; rfl
 clear hb0 hdv hmd
 go_enter Tryd.func12, Tryd.ntmps12
 go_upto_region 2 with (fail)
 refine AS.region_facts (rqFL 0 b 0 B 0 0) (DNo w) [[], [21], [], [23], [22, 24], [], [26], [], [28], [27, 29], [], [31], [25], [30], [32]] [] [[]] [0, 0, 0, 0, 0, 0, 0, 0, 0, 0, 0, 0, 0, 0, 0] [] (fun u => by simp only [rqFL, AS.temps, List.map_cons, List.map_nil, fillL, List.setIfInBounds_toArray, List.set_cons_zero, List.set_cons_succ]; rfl) (by kernel_rfl) (by kernel_rfl) (DNo.st w) (dc_drew (Below.refl _ _)) ?_ ?_
 ·refine AS.sc rfl rfl rfl ?_ ?_
  ·intro k_ u w_ hk hJ hF K hK
   clear hF
   go_simp
   exact hK.out _ _ (Below.refl _ _) (rfl) trivial
  refine AS.sc rfl rfl rfl ?_ ?_
  ·intro k_ u w_ hk hJ hF K hK
   have h21 : u 21 = .int .i64 0 := AS.facts_get hF 21 (by simp)
   clear hF
   simp only [h21] at hK ⊢
   clear h21
   go_simp
   refine (HS.out _).mono ?_
   rintro e w' ⟨rfl, rfl⟩
   exact hK.out _ _ (Below.refl _ _) rfl trivial
  refine AS.sc rfl rfl rfl ?_ ?_
  ·intro k_ u w_ hk hJ hF K hK
   clear hF
   go_simp
   exact hK.out _ _ (Below.refl _ _) (rfl) trivial
  refine AS.sc rfl rfl rfl ?_ ?_
  ·intro k_ u w_ hk hJ hF K hK
   have h23 : u 23 = .int .i64 b := AS.facts_get hF 23 (by simp)
   clear hF
   simp only [h23] at hK ⊢
   clear h23
   go_simp
   refine (HT.out _).mono ?_
   rintro e w' ⟨rfl, rfl⟩
   exact hK.out _ _ (Below.refl _ _) rfl trivial
  refine AS.sc rfl rfl rfl ?_ ?_
  ·intro k_ u w_ hk hJ hF K hK
   have h22 : u 22 = .int .i64 0 := AS.facts_get hF 22 (by simp)
   have h24 : u 24 = .int .i64 B := AS.facts_get hF 24 (by simp)
   clear hF
   simp only [h22, h24] at hK ⊢
   clear h22 h24
   have o0 := HB0.out
   have o1 := HDV.out
   have o2 := HMD.out
   go_simp
   exact hK.out _ _ (Below.refl _ _) rfl trivial
  refine AS.sc rfl rfl rfl ?_ ?_
  ·intro k_ u w_ hk hJ hF K hK
   clear hF
   go_simp
   exact hK.out _ _ (Below.refl _ _) (rfl) trivial
  refine AS.sc rfl rfl rfl ?_ ?_
  ·intro k_ u w_ hk hJ hF K hK
   have h26 : u 26 = .int .i64 0 := AS.facts_get hF 26 (by simp)
   clear hF
   simp only [h26] at hK ⊢
   clear h26
   go_simp
   refine (HS.out _).mono ?_
   rintro e w' ⟨rfl, rfl⟩
   exact hK.out _ _ (Below.refl _ _) rfl trivial
  refine AS.sc rfl rfl rfl ?_ ?_
  ·intro k_ u w_ hk hJ hF K hK
   clear hF
   go_simp
   exact hK.out _ _ (Below.refl _ _) (rfl) trivial
  refine AS.sc rfl rfl rfl ?_ ?_
  ·intro k_ u w_ hk hJ hF K hK
   have h28 : u 28 = .int .i64 b := AS.facts_get hF 28 (by simp)
   clear hF
   simp only [h28] at hK ⊢
   clear h28
   go_simp
   refine (HT.out _).mono ?_
   rintro e w' ⟨rfl, rfl⟩
   exact hK.out _ _ (Below.refl _ _) rfl trivial
  refine AS.sc rfl rfl rfl ?_ ?_
  ·intro k_ u w_ hk hJ hF K hK
   have h27 : u 27 = .int .i64 0 := AS.facts_get hF 27 (by simp)
   have h29 : u 29 = .int .i64 B := AS.facts_get hF 29 (by simp)
   clear hF
   simp only [h27, h29] at hK ⊢
   clear h27 h29
   have o0 := HB0.out
   have o1 := HDV.out
   have o2 := HMD.out
   go_simp
   exact hK.out _ _ (Below.refl _ _) rfl trivial
  refine AS.sc rfl rfl rfl ?_ ?_
  ·intro k_ u w_ hk hJ hF K hK
   clear hF
   go_simp
   exact hK.out _ _ (Below.refl _ _) (rfl) trivial
  refine AS.sc rfl rfl rfl ?_ ?_
  ·intro k_ u w_ hk hJ hF K hK
   have h31 : u 31 = .int .i64 b := AS.facts_get hF 31 (by simp)
   clear hF
   simp only [h31] at hK ⊢
   clear h31
   go_simp
   refine (HT.out _).mono ?_
   rintro e w' ⟨rfl, rfl⟩
   exact hK.out _ _ (Below.refl _ _) rfl trivial
  refine AS.sc rfl rfl rfl ?_ ?_
  ·intro k_ u w_ hk hJ hF K hK
   have h25 : u 25 = .int .i64 0 := AS.facts_get hF 25 (by simp)
   clear hF
   simp only [h25] at hK ⊢
   clear h25
   go_simp
   exact hK.out _ _ (Below.refl _ _) rfl trivial
  refine AS.sc rfl rfl rfl ?_ ?_
  ·intro k_ u w_ hk hJ hF K hK
   have h30 : u 30 = .int .i64 0 := AS.facts_get hF 30 (by simp)
   clear hF
   simp only [h30] at hK ⊢
   clear h30
   go_simp
   exact hK.out _ _ (Below.refl _ _) rfl trivial
  refine AS.sc rfl rfl rfl ?_ ?_
  ·intro k_ u w_ hk hJ hF K hK
   have h32 : u 32 = .int .i64 B := AS.facts_get hF 32 (by simp)
   clear hF
   simp only [h32] at hK ⊢
   clear h32
   go_simp
   exact hK.out _ _ (Below.refl _ _) rfl trivial
  exact AS.StepsOk.nil
 ·intro u W3 hJ9 hF
  have h8 : u 8 = .int .i64 0 := AS.facts_get hF 8 (by simp [rqFL, AS.temps])
  have h9 : u 9 = .int .i64 0 := AS.facts_get hF 9 (by simp [rqFL, AS.temps])
  have h10 : u 10 = .int .i64 B := AS.facts_get hF 10 (by simp [rqFL, AS.temps])
  clear hF
  rw [show u 8 = _ from h8, show u 9 = _ from h9, show u 10 = _ from h10]
  clear h8 h9 h10
  have hc : m = 0 ∨ m = 1 ∨ m = 2 ∨ m = 3 ∨ m = 4 ∨ m = 5 := by omega
  clear hm0 hm1
  rcases hc with rfl | rfl | rfl | rfl | rfl | rfl
  all_goals
   go_wp2_with fail
   go_ret
   exact ⟨rfl, hJ9⟩
theorem dcquo_any (m a b : Int) (w : World) (hm0 : 0 ≤ m) (hm1 : m ≤ 5) (h1 : -1000000000000000000 ≤ a) (h2 : a ≤ 1000000000000000000) (h3 : -1000000000000000000 ≤ b) (h4 : b ≤ 1000000000000000000) (h0 : b ≠ 0) :
  Calls Tryd.prog 12 #[.int .i64 a, .int .i64 b, .int .i64 m] w fun e w' => e = .returned (.int .i64 (rnd m a b)) ∧ Below w.heap.size w w' := by
 by_cases hz : a = 0
 ·subst hz
  rw [rnd_zero m b hm0 hm1 h0]
  exact rq_20 m b w hm0 hm1 h0 h3 h4
 unfold rnd
 by_cases ha : a < 0
 ·obtain ⟨A, rfl⟩ : ∃ A, a = -A := ⟨-a, by omega⟩
  rw [show ((-A).natAbs : Int) = A by omega]
  by_cases hb : b < 0
  ·obtain ⟨B, rfl⟩ : ∃ B, b = -B := ⟨-b, by omega⟩
   rw [show ((-B).natAbs : Int) = B by omega, show negB (-A) (-B) = false by unfold negB; rw [decide_eq_true ha, decide_eq_true hb]; rfl]
   exact rq_11 m A B w hm0 hm1 (by omega) (by omega) (by omega) (by omega)
  ·rw [show (b.natAbs : Int) = b by omega, show negB (-A) b = true by unfold negB; rw [decide_eq_true ha, decide_eq_false hb]; rfl]
   exact rq_10 m A b w hm0 hm1 (by omega) (by omega) (by omega) (by omega)
 ·rw [show (a.natAbs : Int) = a by omega]
  by_cases hb : b < 0
  ·obtain ⟨B, rfl⟩ : ∃ B, b = -B := ⟨-b, by omega⟩
   rw [show ((-B).natAbs : Int) = B by omega, show negB a (-B) = true by unfold negB; rw [decide_eq_false ha, decide_eq_true hb]; rfl]
   exact rq_01 m a B w hm0 hm1 (by omega) (by omega) (by omega) (by omega)
  ·rw [show (b.natAbs : Int) = b by omega, show negB a b = false by unfold negB; rw [decide_eq_false ha, decide_eq_false hb]; rfl]
   exact rq_00 m a b w hm0 hm1 (by omega) (by omega) (by omega) (by omega)
def roundE (a b m : Int) : Int := if modeB m then (if termB a && termB b then (if b = 0 then 10 else 0) else 2) else 1
def roundV (a b m : Int) : Int := if roundE a b m = 0 then rnd m a b else 0
set_option maxHeartbeats 1600000 in
theorem round_any (a b m : Int) (w : World) : Calls Tryd.prog 5 #[.int .i64 a, .int .i64 b, .int .i64 m] w fun e w' => e = .returned (.tuple #[.int .i64 (roundV a b m), .int .i64 (roundE a b m)]) ∧ Below w.heap.size w w' := by
 unfold roundV roundE
 cases hm : modeB m
 ·rw [if_neg (by simp), if_neg (by simp)]
  have hB := Below.refl w.heap.size w
  go_enter Tryd.func5, Tryd.ntmps5
  go_wp2_with (first | (go_at_call 8; refine (isMode_any _ _).mono ?_; rintro e w' ⟨rfl, hb⟩; replace hB := below_more hB hb; clear hb) | (go_at_call 9; refine (isTerm_any _ _).mono ?_; rintro e w' ⟨rfl, rfl⟩) | (go_at_call 10; refine (rounded_any _ _ _ _ (by omega) (by omega) (by omega) (by omega) (by omega) (by omega) (by omega)).mono ?_; rintro e w' ⟨rfl, hb⟩; replace hB := below_more hB hb; clear hb))
  go_ret2
  exact ⟨rfl, hB⟩
 ·rw [if_pos rfl]
  have hm2 := modeB_is hm
  obtain ⟨hm3, hm4⟩ := hm2
  cases ha : termB a
  ·rw [if_neg (by simp), if_neg (by simp)]
   have hB := Below.refl w.heap.size w
   go_enter Tryd.func5, Tryd.ntmps5
   go_wp2_with (first | (go_at_call 8; refine (isMode_any _ _).mono ?_; rintro e w' ⟨rfl, hb⟩; replace hB := below_more hB hb; clear hb) | (go_at_call 9; refine (isTerm_any _ _).mono ?_; rintro e w' ⟨rfl, rfl⟩) | (go_at_call 10; refine (rounded_any _ _ _ _ (by omega) (by omega) (by omega) (by omega) (by omega) (by omega) (by omega)).mono ?_; rintro e w' ⟨rfl, hb⟩; replace hB := below_more hB hb; clear hb))
   go_ret2
   exact ⟨rfl, hB⟩
  ·cases hb : termB b
   ·rw [if_neg (by simp), if_neg (by simp)]
    have hB := Below.refl w.heap.size w
    go_enter Tryd.func5, Tryd.ntmps5
    go_wp2_with (first | (go_at_call 8; refine (isMode_any _ _).mono ?_; rintro e w' ⟨rfl, hb⟩; replace hB := below_more hB hb; clear hb) | (go_at_call 9; refine (isTerm_any _ _).mono ?_; rintro e w' ⟨rfl, rfl⟩) | (go_at_call 10; refine (rounded_any _ _ _ _ (by omega) (by omega) (by omega) (by omega) (by omega) (by omega) (by omega)).mono ?_; rintro e w' ⟨rfl, hb⟩; replace hB := below_more hB hb; clear hb))
    go_ret2
    exact ⟨rfl, hB⟩
   ·rw [Bool.and_self, if_pos rfl]
    obtain ⟨ha3, ha4⟩ := termB_is ha
    obtain ⟨hb3, hb4⟩ := termB_is hb
    by_cases h0 : b = 0
    ·subst h0
     rw [if_pos rfl, if_neg (by decide)]
     have hB := Below.refl w.heap.size w
     go_enter Tryd.func5, Tryd.ntmps5
     go_wp2_with (first | (go_at_call 8; refine (isMode_any _ _).mono ?_; rintro e w' ⟨rfl, hb⟩; replace hB := below_more hB hb; clear hb) | (go_at_call 9; refine (isTerm_any _ _).mono ?_; rintro e w' ⟨rfl, rfl⟩) | (go_at_call 10; refine (rounded_any _ _ _ _ (by omega) (by omega) (by omega) (by omega) (by omega) (by omega) (by omega)).mono ?_; rintro e w' ⟨rfl, hb⟩; replace hB := below_more hB hb; clear hb))
     go_ret2
     exact ⟨rfl, hB⟩
    ·rw [if_neg h0, if_pos rfl]
     have h1 : (b == 0) = false := by simpa using h0
     have hB := Below.refl w.heap.size w
     go_enter Tryd.func5, Tryd.ntmps5
     go_wp2_with (first | (go_at_call 8; refine (isMode_any _ _).mono ?_; rintro e w' ⟨rfl, hb⟩; replace hB := below_more hB hb; clear hb) | (go_at_call 9; refine (isTerm_any _ _).mono ?_; rintro e w' ⟨rfl, rfl⟩) | (go_at_call 10; refine (rounded_any _ _ _ _ (by omega) (by omega) (by omega) (by omega) (by omega) (by omega) (by omega)).mono ?_; rintro e w' ⟨rfl, hb⟩; replace hB := below_more hB hb; clear hb))
     go_ret2
     exact ⟨rfl, hB⟩
set_option maxHeartbeats 1600000 in
theorem rround_any (a b m : Int) (w : World) : Calls Tryd.prog 6 #[.int .i64 a, .int .i64 b, .int .i64 m] w fun e w' => e = .returned (.tuple #[.int .i64 (roundV a b m), .int .i64 (roundE a b m)]) ∧ Below w.heap.size w w' := by
 unfold roundV roundE
 cases hm : modeB m
 ·rw [if_neg (by simp), if_neg (by simp)]
  have hB := Below.refl w.heap.size w
  go_enter Tryd.func6, Tryd.ntmps6
  go_wp2_with (first | (go_at_call 11; refine (known_any _ _).mono ?_; rintro e w' ⟨rfl, rfl⟩) | (go_at_call 12; refine (dcquo_any _ _ _ _ (by omega) (by omega) (by omega) (by omega) (by omega) (by omega) (by omega)).mono ?_; rintro e w' ⟨rfl, hb⟩; replace hB := below_more hB hb; clear hb))
  go_ret2
  exact ⟨rfl, hB⟩
 ·rw [if_pos rfl]
  have hm2 := modeB_is hm
  obtain ⟨hm3, hm4⟩ := hm2
  by_cases a1 : (-1000000000000000000 : Int) ≤ a
  ·by_cases a2 : a ≤ 1000000000000000000
   ·by_cases b1 : (-1000000000000000000 : Int) ≤ b
    ·by_cases b2 : b ≤ 1000000000000000000
     ·rw [show termB a = true by simp [termB, a1, a2], show termB b = true by simp [termB, b1, b2], Bool.and_self, if_pos rfl]
      by_cases h0 : b = 0
      ·subst h0
       rw [if_pos rfl, if_neg (by decide)]
       have hB := Below.refl w.heap.size w
       go_enter Tryd.func6, Tryd.ntmps6
       go_wp2_with (first | (go_at_call 11; refine (known_any _ _).mono ?_; rintro e w' ⟨rfl, rfl⟩) | (go_at_call 12; refine (dcquo_any _ _ _ _ (by omega) (by omega) (by omega) (by omega) (by omega) (by omega) (by omega)).mono ?_; rintro e w' ⟨rfl, hb⟩; replace hB := below_more hB hb; clear hb))
       go_ret2
       exact ⟨rfl, hB⟩
      ·rw [if_neg h0, if_pos rfl]
       have h1 : (b == 0) = false := by simpa using h0
       have hB := Below.refl w.heap.size w
       go_enter Tryd.func6, Tryd.ntmps6
       go_wp2_with (first | (go_at_call 11; refine (known_any _ _).mono ?_; rintro e w' ⟨rfl, rfl⟩) | (go_at_call 12; refine (dcquo_any _ _ _ _ (by omega) (by omega) (by omega) (by omega) (by omega) (by omega) (by omega)).mono ?_; rintro e w' ⟨rfl, hb⟩; replace hB := below_more hB hb; clear hb))
       go_ret2
       exact ⟨rfl, hB⟩
     ·rw [show termB a = true by simp [termB, a1, a2], show termB b = false by simp [termB]; omega]; rw [if_neg (by simp), if_neg (by simp)]
      have hB := Below.refl w.heap.size w
      go_enter Tryd.func6, Tryd.ntmps6
      go_wp2_with (first | (go_at_call 11; refine (known_any _ _).mono ?_; rintro e w' ⟨rfl, rfl⟩) | (go_at_call 12; refine (dcquo_any _ _ _ _ (by omega) (by omega) (by omega) (by omega) (by omega) (by omega) (by omega)).mono ?_; rintro e w' ⟨rfl, hb⟩; replace hB := below_more hB hb; clear hb))
      go_ret2
      exact ⟨rfl, hB⟩
    ·rw [show termB a = true by simp [termB, a1, a2], show termB b = false by simp [termB]; omega]; rw [if_neg (by simp), if_neg (by simp)]
     have hB := Below.refl w.heap.size w
     go_enter Tryd.func6, Tryd.ntmps6
     go_wp2_with (first | (go_at_call 11; refine (known_any _ _).mono ?_; rintro e w' ⟨rfl, rfl⟩) | (go_at_call 12; refine (dcquo_any _ _ _ _ (by omega) (by omega) (by omega) (by omega) (by omega) (by omega) (by omega)).mono ?_; rintro e w' ⟨rfl, hb⟩; replace hB := below_more hB hb; clear hb))
     go_ret2
     exact ⟨rfl, hB⟩
   ·rw [show termB a = false by simp [termB]; omega]; rw [if_neg (by simp), if_neg (by simp)]
    have hB := Below.refl w.heap.size w
    go_enter Tryd.func6, Tryd.ntmps6
    go_wp2_with (first | (go_at_call 11; refine (known_any _ _).mono ?_; rintro e w' ⟨rfl, rfl⟩) | (go_at_call 12; refine (dcquo_any _ _ _ _ (by omega) (by omega) (by omega) (by omega) (by omega) (by omega) (by omega)).mono ?_; rintro e w' ⟨rfl, hb⟩; replace hB := below_more hB hb; clear hb))
    go_ret2
    exact ⟨rfl, hB⟩
  ·rw [show termB a = false by simp [termB]; omega]; rw [if_neg (by simp), if_neg (by simp)]
   have hB := Below.refl w.heap.size w
   go_enter Tryd.func6, Tryd.ntmps6
   go_wp2_with (first | (go_at_call 11; refine (known_any _ _).mono ?_; rintro e w' ⟨rfl, rfl⟩) | (go_at_call 12; refine (dcquo_any _ _ _ _ (by omega) (by omega) (by omega) (by omega) (by omega) (by omega) (by omega)).mono ?_; rintro e w' ⟨rfl, hb⟩; replace hB := below_more hB hb; clear hb))
   go_ret2
   exact ⟨rfl, hB⟩
theorem dig1234 : Lib.itoa (-1234) = [45, 49, 50, 51, 52] := by
 have h : Lib.decDigits 1234 = [49, 50, 51, 52] := by
  rw [Lib.decDigits, dif_neg (by decide), Lib.decDigits, dif_neg (by decide), Lib.decDigits, dif_neg (by decide), Lib.decDigits, dif_pos (by decide)]
  rfl
 show (if (-1234 : Int) < 0 then 45 :: Lib.decDigits 1234 else _) = _
 rw [if_pos (by decide), h]
theorem text1234 (w : World) (ht : DTab w.heap.size w) : Calls Tryd.prog 7 #[.int .i64 (-1234), .int .i64 2] w fun e w' => e = .returned (.string ⟨#[45, 49, 50, 46, 51, 52]⟩) ∧ Below w.heap.size w w' :=
 dtext_100 (-1234) [45, 49, 50, 51, 52] [49, 50, 51, 52] 2 w ht (by decide) dig1234 (by decide) (by decide) (by decide) (by decide) (by decide)
theorem round52 (w : World) : Calls Tryd.prog 5 #[.int .i64 (-5), .int .i64 2, .int .i64 0] w fun e w' => e = .returned (.tuple #[.int .i64 (-3), .int .i64 0]) ∧ Below w.heap.size w w' := by
 have h := round_any (-5) 2 0 w
 rw [show roundV (-5) 2 0 = -3 by decide, show roundE (-5) 2 0 = 0 by decide] at h
 exact h
set_option maxHeartbeats 800000 in
theorem dawake_any (w : World) (ht : DTab w.heap.size w) : Calls Tryd.prog 4 #[] w fun e w' => e = .returned (.bool true) ∧ Below w.heap.size w w' := by
 have HT := Lib.hid ht
 clear ht
 have hB := Below.refl w.heap.size w
 go_enter Tryd.func4, Tryd.ntmps4
 go_wp2_with (first | (go_at_call 5; refine (round52 _).mono ?_; rintro e w' ⟨rfl, hb⟩; replace hB := below_more hB hb; clear hb) | (go_at_call 7; refine (text1234 _ (DTab.up HT.out hB)).mono ?_; rintro e w' ⟨rfl, hb⟩; replace hB := below_more hB hb; clear hb))
 go_ret
 exact ⟨rfl, hB⟩
set_option maxHeartbeats 800000 in
theorem law_dround (a b m : Int) (w : World) (ht : DTab w.heap.size w) : Calls Tryd.prog 3 #[.int .i64 a, .int .i64 b, .int .i64 m] w fun e w' => e = .returned (.bool true) ∧ Below w.heap.size w w' := by
 have hq := fun w => round_any a b m w
 have hr := fun w => rround_any a b m w
 generalize roundV a b m = V at *
 generalize roundE a b m = E at *
 have HQ := Lib.hid hq
 have HR := Lib.hid hr
 have HT := Lib.hid ht
 clear hq hr ht
 have hB := Below.refl w.heap.size w
 go_enter Tryd.func3, Tryd.ntmps3
 go_wp2_with (first | (go_at_call 4; refine (dawake_any _ HT.out).mono ?_; rintro e w' ⟨rfl, hb⟩; replace hB := below_more hB hb; clear hb) | (go_at_call 5; refine (HQ.out _).mono ?_; rintro e w' ⟨rfl, hb⟩; replace hB := below_more hB hb; clear hb) | (go_at_call 6; refine (HR.out _).mono ?_; rintro e w' ⟨rfl, hb⟩; replace hB := below_more hB hb; clear hb))
 go_ret
 exact ⟨rfl, hB⟩
open Go.ChangeShapes Go.WideShapes Go.ChangeAt Go.WideMaps Go.WideElems Go.RowKit
theorem own : ownKnob Tryd.prog.godebug = none := by kernel_rfl
abbrev laidL : List (String × DataW Unit) := [("math/bits.deBruijn32tab", Rows.laid_math_bits_deBruijn32tab), ("math/bits.deBruijn64tab", Rows.laid_math_bits_deBruijn64tab), ("internal/strconv.uint64pow10", Rows.laid_internal_strconv_uint64pow10)]
theorem door_met (os : Os) (args : Array Value) : laidMetH Tryd.prog laidL ((World.laidAll Tryd.prog os laidL).forCall (fun _ _ => 0) ⟨#[], args, []⟩).memory := by
 rw [MakeChecks.laidMetH_plain _ _ _ (by kernel_rfl)]
 exact laidMet_laidAll _ (by kernel_rfl) (by kernel_rfl)
theorem pow_is : Rows.laid_internal_strconv_uint64pow10 (H := Unit) = Lib.tabData .u64 Lib.pow10Tab := by kernel_rfl
theorem tab_of_laid {W : World} (h : laidMetH Tryd.prog laidL W) : DTab W.heap.size W := by
 rw [MakeChecks.laidMetH_plain _ _ _ (by kernel_rfl)] at h
 obtain ⟨ps, ⟨g0, t0, cs0, f0, p0, q0, hg0, ht0, hv0, hd0, ⟨g1, t1, cs1, f1, p1, q1, hg1, ht1, hv1, hd1, ⟨g2, t2, cs2, f2, p2, q2, hg2, ht2, hv2, hd2, _, _⟩, _⟩, _⟩, _, _⟩ := h
 have hg : Tryd.prog.globalNamed "internal/strconv.uint64pow10" = some g2 := hg2
 have hgg : Tryd.prog.globalNamed "internal/strconv.uint64pow10" = some 0 := by kernel_rfl
 have hty : (Tryd.prog.globals[0]?).map (·.type) = some 74 := by kernel_rfl
 obtain rfl := Option.some.inj (hgg.symm.trans hg2)
 obtain rfl := Option.some.inj (hty.symm.trans ht2)
 refine Lib.tabBelow_of_tabIs ?_
 unfold Lib.TabIs
 rw [hv2]
 rw [pow_is] at hd2
 rw [← Lib.cells_of_tab Tryd.underlying74 Tryd.underlying61 (by kernel_rfl) (by kernel_rfl) hd2]
theorem lifted_shaped {H : Type} {enc : TypeId × Value → H} {a : Assume} {C : Checked} {os : Os} {f : FuncId} {fn : Func} {s : ChangeSpec} {conds : List PathCond} {apart fresh handsOn again : Bool} {X : World → Array Value → Prop}
  (hX : ∀ (w w' : World) (args : Array Value), w.heap = w'.heap → X w args → X w' args) (own : ownKnob C.prog.godebug = none) (started : os.Started) (noInit : C.prog.inits.idxOf? f = none) (hfn : C.prog.funcs[f]? = some fn)
  (witness : ∃ (w : World) (tape : Tape) (i : Input), w.os = os ∧ (w.forCall tape i).Shaped C.prog ∧ i.vars = [] ∧ Input.okWide C.prog (w.forCall tape i) .any w.heap.size f i ∧
   ((s.pre enc C.prog fn conds apart (w.forCall tape i).memory i.args ∧ X (w.forCall tape i).memory i.args) ∧ sizedMet enc C.prog fn (OpenSpec.ofChange s) apart (w.forCall tape i).memory i.args) ∧ a.holds C.prog (lone (Frame.enter C.prog f i.args .normal) [] (w.forCall tape i)))
  (contract : ∀ (W : World) (base : Nat) (args : Array Value) (ds gs : List (DataW H)) (before : List MemPlace), W.ShapedOpen C.prog →
   (∀ (j : Nat) t v, fn.params[j]? = some t → args[j]? = some v → Value.okWide C.prog W .any base t v) → DataW.Whole enc C.prog fn.params.toList s.vars apart W args.toList ds gs before → X W args →
   Calls C.prog f args W fun e W' => ∃ v, e = .returned v ∧ s.post enc C.prog fn apart fresh handsOn again W args v W') :
  ReturnsInHanded a C os f .any (fun w args => (s.pre enc C.prog fn conds apart w args ∧ X w args) ∧ sizedMet enc C.prog fn (OpenSpec.ofChange s) apart w args) (s.post enc C.prog fn apart fresh handsOn again) := by
 refine returnsInHanded_of_calls own started noInit witness fun w tape i _ hsh _ hok hpre _ => ?_
 obtain ⟨_, _, _, fn', hfn', _, _, _, _, hval⟩ := hok
 obtain rfl : fn' = fn := Option.some.inj (hfn'.symm.trans hfn)
 obtain ⟨⟨⟨ds, gs, before, hw, _⟩, hx⟩, _⟩ := hpre
 refine (contract (w.forCall tape i) w.heap.size i.args ds gs before hsh hval (DataW.Whole.of_heap (w' := w.forCall tape i) (by rfl) hw) (hX _ _ _ (by rfl) hx)).mono fun e W' ⟨v, he, hp⟩ => ?_
 subst he
 exact ChangeSpec.post_blind hp
theorem post_below {H : Type} {enc : TypeId × Value → H} {P : Program} {f : Func} {s : ChangeSpec} {ap fr ho ag : Bool} {W W' : World} {args : Array Value} {v : Value} {ds gs : List (DataW H)} {before pa pv : List MemPlace}
  (hW : DataW.Whole enc P f.params.toList s.vars ap W args.toList ds gs before)
  (hres : ∀ (b : Nat) (sp : Nat → Bool) (hd : Bool), DataW.TrodAll enc P W' b sp hd f.resultTypes.toList (v.resultList f.resultTypes.size) (s.fn H (ds ++ gs)).results [])
  (hargs : ∀ sp : Nat → Bool, (∀ p ∈ before, sp p.block = true) → DataW.TrodAll enc P W' 0 sp true f.params.toList args.toList (s.fn H (ds ++ gs)).args pa)
  (hvars : ∀ sp : Nat → Bool, (∀ p ∈ before, sp p.block = true) → DataW.TrodVars enc P W' sp s.vars (s.fn H (ds ++ gs)).vars pv)
  (hps : before = pa ++ pv) (hb : Below W.heap.size W W')
  (hok : ∀ (j : Nat) (t : TypeId) (r : Value), f.resultTypes[j]? = some t → (v.resultList f.resultTypes.size)[j]? = some r → Value.okWide P W' .any 0 t r) : s.post enc P f ap fr ho ag W args v W' := by
 have hlt : ∀ p ∈ before, p.block < W.heap.size := fun p hp => hW.lt p hp
 have hin : ∀ p ∈ before, (fun b => decide (b < W.heap.size)) p.block = true := fun p hp => by simpa using hlt p hp
 refine ⟨ds, gs, before, [], pa, pv, hW, hres _ _ _, hargs _ hin, hvars _ hin, World.keptBut_mono (fun p hp => ⟨hp, .inr (List.mem_append.1 (hps ▸ hp))⟩) (hb.frame (· ∈ before)), fun _ => ?_⟩
 obtain ⟨_, _, _, _, _, hz, hn⟩ := hW
 refine ⟨hok, _, _, ([] ++ pa) ++ pv, ⟨[] ++ pa, pv, trodAll_append (hargs _ (fun _ _ => rfl)) (hres _ _ _), hvars _ (fun _ _ => rfl), rfl, fun b off hp => ?_, fun ha => ?_⟩, ?_⟩
 ·have hbe : MemPlace.cell b off ∈ before := by rw [hps]; simpa using hp
  rw [hb.frozen (hlt _ hbe)]
  exact hz b off hbe
 ·have h9 := hn ha
  rw [hps] at h9
  simpa using h9
 ·intro p hp _
  rw [hps, ← List.nil_append pa]
  exact hp
theorem laid_out : laidOutB Tryd.prog = true := by kernel_rfl
theorem trodAll_stays {H : Type} {enc : TypeId × Value → H} {P : Program} (hl : laidOutB P = true) {W W' : World} (hb : Below W.heap.size W W') {sp : Nat → Bool} :
  ∀ {ts : List TypeId} {vs : List Value} {ds : List (DataW H)} {ps : List MemPlace}, (ts.all fun t => P.readableRec t && decide (t < P.types.size)) = true → DataW.TrodAll enc P W 0 (fun _ => true) true ts vs ds ps →
   (∀ x ∈ ps, x.block < W.heap.size) → (∀ x ∈ ps, sp x.block = true) → DataW.TrodAll enc P W' 0 sp true ts vs ds ps
 | [], vs, ds, ps, _, h, _, _ => by
  cases vs <;> cases ds <;> simp [DataW.TrodAll] at h ⊢
  exact h
 | t :: ts, vs, ds, ps, ht, h, hlt, hs => by
  obtain ⟨v, vs', d, ds', p, q, rfl, rfl, rfl, h1, h2⟩ := trodAll_cons h
  simp only [List.all_cons, Bool.and_eq_true, decide_eq_true_eq] at ht
  refine trodAll_cons_mk (WideElems.Trod_stays hl ht.1.1 ht.1.2 h1 (fun x hx => hb.same (hlt x (by simp [hx]))) fun x hx => hs x (by simp [hx])) ?_
  exact trodAll_stays hl hb ht.2 h2 (fun x hx => hlt x (by simp [hx])) fun x hx => hs x (by simp [hx])
end Go.Proofs.YteemgcbopafilaaDoor
