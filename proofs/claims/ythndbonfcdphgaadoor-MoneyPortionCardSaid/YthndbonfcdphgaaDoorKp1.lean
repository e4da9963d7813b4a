/- Contracts and the law of MoneyPortion, part 1: what was proved of each, callees first. -/
import Derived.Deep.QuietTactic
import Derived.BigQuiet
import Derived.Outline
import Derived.Test.YthndbonfcdphgaaDoorK1
namespace Go.Proofs.YthndbonfcdphgaaDoor
theorem amtB_neg (n : Int) : amtB (-n) = amtB n := by
 unfold amtB
 rw [Bool.eq_iff_iff]
 simp only [Bool.and_eq_true, decide_eq_true_eq]
 omega
theorem hr_ref {a b : Int} (h0 : 0 ≤ a) (hb : 0 < b) : hr a b = if b - a % b ≤ a % b then a / b + 1 else a / b := by
 rw [hr_tdiv hb, Int.tdiv_eq_ediv_of_nonneg h0, Int.tmod_eq_emod_of_nonneg h0]
 have h2 : 0 ≤ a % b := Int.emod_nonneg _ (by omega)
 by_cases h : b ≤ 2 * (a % b)
 ·rw [if_pos h, if_pos (by omega)]
 ·rw [if_neg h, if_neg (show ¬ 2 * (a % b) ≤ -b by omega), if_neg (by omega)]
open Go.RowKit
theorem rmvalid_any (n : Int) (w : World) : Calls Tryd.prog 14 #[.int .i64 n] w fun e w' => e = .returned (.bool (amtB n)) ∧ w = w' := by
 unfold amtB
 by_cases h1 : (-1000000000000 : Int) ≤ n
 ·by_cases h2 : n ≤ 1000000000000
  ·rw [decide_eq_true h1, decide_eq_true h2]
   go_enter Tryd.func14, Tryd.ntmps14
   go_wp2
   go_ret
   exact ⟨rfl, rfl⟩
  ·rw [decide_eq_true h1, decide_eq_false h2]
   have h3 : decide (n ≤ 1000000000000) = false := decide_eq_false h2
   clear h2
   go_enter Tryd.func14, Tryd.ntmps14
   go_wp2
   go_ret
   exact ⟨rfl, rfl⟩
 ·rw [decide_eq_false h1]
  have h3 : decide ((-1000000000000 : Int) ≤ n) = false := decide_eq_false h1
  clear h1
  go_enter Tryd.func14, Tryd.ntmps14
  go_wp2
  go_ret
  exact ⟨rfl, rfl⟩
theorem checked_any (n : Int) (w : World) : Calls Tryd.prog 35 #[.int .i64 n] w fun e w' => e = .returned (.tuple #[.int .i64 (amV n), .int .i64 (amE n)]) ∧ w = w' := by
 unfold amV amE
 cases h : amtB n
 all_goals
  have HV := fun w => rmvalid_any n w
  rw [h] at HV
  have H := Lib.hid HV
  clear HV
  go_enter Tryd.func35, Tryd.ntmps35
  go_wp2_with (go_at_call 14; refine (H.out _).mono ?_; rintro e w' ⟨rfl, rfl⟩)
  go_ret2
  exact ⟨rfl, rfl⟩
theorem numB_is {m : Int} (h : numB m = true) : 0 ≤ m ∧ m ≤ 1000000000000 := by simpa [numB] using h
theorem denB_is {m : Int} (h : denB m = true) : 1 ≤ m ∧ m ≤ 1000000 := by simpa [denB] using h
theorem mrround_pos (a b : Int) (w : World) (ha1 : 0 ≤ a) (ha2 : a ≤ 1000000000000000000) (hb1 : 1 ≤ b) (hb2 : b ≤ 1000000) : Calls Tryd.prog 36 #[.int .i64 a, .int .i64 b] w fun e w' => e = .returned (.int .i64 (hr a b)) ∧ Below w.heap.size w w' := by
 rw [hr_ref ha1 (by omega)]
 have m1 : 0 ≤ a % b := Int.emod_nonneg _ (by omega)
 have m2 : a % b < b := Int.emod_lt_of_pos _ (by omega)
 have q1 : 0 ≤ a / b := Int.ediv_nonneg ha1 (by omega)
 have q2 : a / b ≤ a := Int.ediv_le_self _ ha1
 have hb0 : ¬ b = 0 := by omega
 have ha0 : decide (a < 0) = false := decide_eq_false (by omega)
 obtain ⟨q, hq⟩ : ∃ q, a / b = q := ⟨_, rfl⟩
 obtain ⟨r, hmd0⟩ : ∃ r, a % b = r := ⟨_, rfl⟩
 have hdv : IntKind.i64.wrap (a.tdiv b) = q := by rw [Int.tdiv_eq_ediv_of_nonneg ha1, IntKind.wrap_i64]; omega
 have hmd : a.tmod b = r := by rw [Int.tmod_eq_emod_of_nonneg ha1]; exact hmd0
 rw [hq, hmd0]
 rw [hq] at q1 q2
 rw [hmd0] at m1 m2
 clear hq hmd0
 have hB := Below.refl w.heap.size w
 by_cases h1 : b - r ≤ r
 ·rw [if_pos h1]
  go_enter Tryd.func36, Tryd.ntmps36
  go_wp2_with fail
  go_quiet (fail)
  replace hB := below_drewN hB nq
  go_wp2_with fail
  go_ret
  exact ⟨rfl, hB⟩
 ·rw [if_neg h1]
  have h1' : decide (b - r ≤ r) = false := decide_eq_false h1
  go_enter Tryd.func36, Tryd.ntmps36
  go_wp2_with fail
  go_quiet (fail)
  replace hB := below_drewN hB nq
  go_wp2_with fail
  go_ret
  exact ⟨rfl, hB⟩
theorem mrround_any (a b : Int) (w : World) (ha : -1000000000000000000 ≤ a ∧ a ≤ 1000000000000000000) (hb : 1 ≤ b ∧ b ≤ 1000000) : Calls Tryd.prog 36 #[.int .i64 a, .int .i64 b] w fun e w' => e = .returned (.int .i64 (hr a b)) ∧ Below w.heap.size w w' := by
 obtain ⟨ha1, ha2⟩ := ha
 obtain ⟨hb1, hb2⟩ := hb
 by_cases h0 : a < 0
 ·obtain ⟨c, rfl⟩ : ∃ c, a = -c := ⟨-a, by omega⟩
  have hR := fun w => mrround_pos c b w (by omega) (by omega) hb1 hb2
  have hb9 := hr_le (a := c) (b := b) (n := 1000000000000000000) (by omega) (by omega) (by omega)
  rw [hr_neg (by omega)]
  obtain ⟨x1, x2⟩ := hb9
  generalize hr c b = X at *
  have HR := Lib.hid hR
  clear hR
  have hB := Below.refl w.heap.size w
  go_enter Tryd.func36, Tryd.ntmps36
  go_wp2_with (go_at_call 36; refine (HR.out _).mono ?_; rintro e w' ⟨rfl, hb⟩; replace hB := below_more hB hb; clear hb)
  go_ret
  exact ⟨rfl, hB⟩
 ·exact mrround_pos a b w (by omega) ha2 hb1 hb2
theorem far_ref {n num den : Int} (h1 : 0 < n) (hnum : 0 ≤ num) (hden : 0 < den) (h : 1000000000000 / n < num / den) : 1000000000000 < hr (n * num) den := by
 have hq : 0 < num / den := by have : 0 ≤ (1000000000000 : Int) / n := Int.ediv_nonneg (by omega) (by omega); omega
 have h2 : 1000000000000 < num / den * n := (Int.ediv_lt_iff_lt_mul h1).1 h
 have h3 : (1000000000000 : Int) / (num / den) < n := (Int.ediv_lt_iff_lt_mul hq).2 (by rw [Int.mul_comm]; exact h2)
 have := hr_far (n := n) hnum hden (show (0 : Int) ≤ 1000000000000 by omega) hq (by omega)
 have h5 := (hr_near0 (a := n * num) (b := den) (Int.mul_nonneg (by omega) hnum) hden).2.2
 omega
theorem near_ref {n num den : Int} (h1 : 0 < n) (hnum : 0 ≤ num) (hden : 0 < den) (h : ¬ 1000000000000 / n < num / den) : 0 ≤ n * (num / den) ∧ n * (num / den) ≤ 1000000000000 := by
 have h4 : 0 ≤ num / den := Int.ediv_nonneg hnum (by omega)
 have h2 : num / den * n ≤ 1000000000000 := (Int.le_ediv_iff_mul_le h1).1 (by omega)
 rw [Int.mul_comm] at h2
 exact ⟨Int.mul_nonneg (by omega) h4, h2⟩
set_option maxHeartbeats 1600000 in
theorem mrport_ok (n num den : Int) (w : World) (hn : amtB n = true) (hn0 : 0 ≤ n) (hN : numB num = true) (hD : denB den = true) : Calls Tryd.prog 22 #[.int .i64 n, .int .i64 num, .int .i64 den] w fun e w' => e = .returned (.tuple #[.int .i64 (amV (hr (n * num) den)), .int .i64 (amE (hr (n * num) den))]) ∧ Below w.heap.size w w' := by
 obtain ⟨c1, c2⟩ := numB_is hN
 obtain ⟨d1, d2⟩ := denB_is hD
 obtain ⟨q, r, nr, R, e1, e2, e3, e4, e5, ⟨a1, a2⟩, ⟨a3, a4⟩, ⟨a5, a6⟩, a7, a8⟩ := mult_in hn ⟨c1, c2⟩ ⟨d1, d2⟩
 obtain ⟨n1, n2⟩ := amtB_is hn
 have hV := fun w => rmvalid_any n w
 rw [hn] at hV
 have HV := Lib.hid hV
 have g0 : decide (n < 0) = false := decide_eq_false (by omega)
 have g1 : decide (num < 0) = false := decide_eq_false (by omega)
 have g2 : decide (1000000000000 < num) = false := decide_eq_false (by omega)
 have g3 : decide (den < 1) = false := decide_eq_false (by omega)
 have g4 : decide (1000000 < den) = false := decide_eq_false (by omega)
 have hb0 : ¬ den = 0 := by omega
 have hdv : IntKind.i64.wrap (num.tdiv den) = q := by rw [Int.tdiv_eq_ediv_of_nonneg (by omega), IntKind.wrap_i64]; omega
 have hmd : num.tmod den = r := by rw [Int.tmod_eq_emod_of_nonneg (by omega)]; exact e2
 have hfar := fun h1 => far_ref (n := n) h1 c1 (show 0 < den by omega)
 have hnear := fun h1 => near_ref (n := n) h1 c1 (show 0 < den by omega)
 rw [e1] at hfar hnear
 have hB := Below.refl w.heap.size w
 by_cases hp : 0 < n
 ·have hn9 : ¬ n = 0 := by omega
  obtain ⟨m, hm⟩ : ∃ m, 1000000000000 / n = m := ⟨_, rfl⟩
  have m1 : 0 ≤ m := by rw [← hm]; exact Int.ediv_nonneg (by omega) (by omega)
  have m2 : m ≤ 1000000000000 := by rw [← hm]; exact Int.ediv_le_self _ (by omega)
  have hdm : IntKind.i64.wrap ((1000000000000 : Int).tdiv n) = m := by rw [Int.tdiv_eq_ediv_of_nonneg (by omega), IntKind.wrap_i64]; omega
  rw [hm] at hfar hnear
  by_cases hf : m < q
  ·have hno : amtB (hr (n * num) den) = false := amtB_no (.inr (hfar hp hf))
   unfold amV amE
   rw [hno]
   clear e5 hfar hnear hm e1 e2 e3 e4 hV
   go_enter Tryd.func22, Tryd.ntmps22
   go_wp2_with (go_at_call 14; refine (HV.out _).mono ?_; rintro e w' ⟨rfl, rfl⟩)
   go_quiet (fail)
   replace hB := below_drewN hB nq
   generalize World.drewN _ nq = W1 at *
   go_wp2_with fail
   go_ret2
   exact ⟨rfl, hB⟩
  ·have hf' : decide (m < q) = false := decide_eq_false hf
   obtain ⟨p1, p2⟩ := hnear hp hf
   have hR := fun w => mrround_any nr den w ⟨a5, a6⟩ ⟨d1, d2⟩
   rw [e4] at hR
   have hM := fun w => checked_any (n * q + R) w
   rw [← e5] at hM
   obtain ⟨V, hVV⟩ : ∃ V, hr (n * num) den = V := ⟨_, rfl⟩
   obtain ⟨Q, hQ⟩ : ∃ Q, n * q = Q := ⟨_, rfl⟩
   rw [hVV, hQ] at e5
   rw [hVV] at hM ⊢
   rw [hQ] at p1 p2
   have hE : Q + R = V := e5.symm
   have HM := Lib.hid hM
   have HR := Lib.hid hR
   clear hM hR e5 hfar hnear hm hVV e1 e2 e4 hf hV
   go_enter Tryd.func22, Tryd.ntmps22
   go_wp2_with (go_at_call 14; refine (HV.out _).mono ?_; rintro e w' ⟨rfl, rfl⟩)
   go_quiet (fail)
   replace hB := below_drewN hB nq
   generalize World.drewN _ nq = W1 at *
   go_wp2_with (first | (go_at_call 36; refine (HR.out _).mono ?_; rintro e w' ⟨rfl, hb⟩; replace hB := below_more hB hb; clear hb) | (go_at_call 35; refine (HM.out _).mono ?_; rintro e w' ⟨rfl, rfl⟩))
   go_ret2
   exact ⟨rfl, hB⟩
 ·obtain rfl : n = 0 := by omega
  obtain rfl : nr = 0 := by rw [← e3, Int.zero_mul]
  obtain rfl : R = 0 := by rw [← e4]; exact hr_zero (by omega)
  have e6 : hr (0 * num) den = 0 := by rw [Int.zero_mul]; exact hr_zero (by omega)
  have hR := fun w => mrround_any 0 den w ⟨a5, a6⟩ ⟨d1, d2⟩
  rw [e4] at hR
  have hM := fun w => checked_any 0 w
  rw [e6]
  have HM := Lib.hid hM
  have HR := Lib.hid hR
  clear hM hR e5 e6 hfar hnear e1 e2 e3 e4 hV hp g0
  go_enter Tryd.func22, Tryd.ntmps22
  go_wp2_with (go_at_call 14; refine (HV.out _).mono ?_; rintro e w' ⟨rfl, rfl⟩)
  go_quiet (fail)
  replace hB := below_drewN hB nq
  generalize World.drewN _ nq = W1 at *
  go_wp2_with (first | (go_at_call 36; refine (HR.out _).mono ?_; rintro e w' ⟨rfl, hb⟩; replace hB := below_more hB hb; clear hb) | (go_at_call 35; refine (HM.out _).mono ?_; rintro e w' ⟨rfl, rfl⟩))
  go_ret2
  exact ⟨rfl, hB⟩
theorem amV_neg (x : Int) : amV (-x) = -amV x := by
 unfold amV; rw [amtB_neg]; split <;> simp
theorem amE_neg (x : Int) : amE (-x) = amE x := by unfold amE; rw [amtB_neg]
theorem amV_bd (x : Int) : -1000000000000 ≤ amV x ∧ amV x ≤ 1000000000000 := by
 unfold amV
 by_cases h : amtB x = true
 ·rw [if_pos h]; exact amtB_is h
 ·rw [if_neg h]; omega
theorem mrportion_any (n num den : Int) (w : World) : Calls Tryd.prog 22 #[.int .i64 n, .int .i64 num, .int .i64 den] w fun e w' => e = .returned (.tuple #[.int .i64 (portV n num den), .int .i64 (portE n num den)]) ∧ Below w.heap.size w w' := by
 have hB := Below.refl w.heap.size w
 have hV := fun w => rmvalid_any n w
 unfold portV portE portB
 cases h0 : amtB n
 ·rw [h0] at hV
  have HV := Lib.hid hV
  clear hV
  go_enter Tryd.func22, Tryd.ntmps22
  go_wp2_with (go_at_call 14; refine (HV.out _).mono ?_; rintro e w' ⟨rfl, rfl⟩)
  go_ret2
  exact ⟨rfl, hB⟩
 ·rw [h0] at hV
  have HV := Lib.hid hV
  clear hV
  cases hN : numB num
  ·unfold numB at hN
   by_cases h1 : num < 0
   ·clear hN
    go_enter Tryd.func22, Tryd.ntmps22
    go_wp2_with (go_at_call 14; refine (HV.out _).mono ?_; rintro e w' ⟨rfl, rfl⟩)
    go_ret2
    exact ⟨rfl, hB⟩
   ·have h1' : decide (num < 0) = false := decide_eq_false h1
    have h2 : 1000000000000 < num := by
     rw [decide_eq_true (show 0 ≤ num by omega), Bool.true_and] at hN
     have := of_decide_eq_false hN
     omega
    clear hN h1
    go_enter Tryd.func22, Tryd.ntmps22
    go_wp2_with (go_at_call 14; refine (HV.out _).mono ?_; rintro e w' ⟨rfl, rfl⟩)
    go_ret2
    exact ⟨rfl, hB⟩
  ·obtain ⟨c1, c2⟩ := numB_is hN
   have h1' : decide (num < 0) = false := decide_eq_false (by omega)
   have h2' : decide (1000000000000 < num) = false := decide_eq_false (by omega)
   cases hD : denB den
   ·unfold denB at hD
    by_cases h3 : den < 1
    ·clear hD
     go_enter Tryd.func22, Tryd.ntmps22
     go_wp2_with (go_at_call 14; refine (HV.out _).mono ?_; rintro e w' ⟨rfl, rfl⟩)
     go_ret2
     exact ⟨rfl, hB⟩
    ·have h3' : decide (den < 1) = false := decide_eq_false h3
     have h4 : 1000000 < den := by
      rw [decide_eq_true (show 1 ≤ den by omega), Bool.true_and] at hD
      have := of_decide_eq_false hD
      omega
     clear hD h3
     go_enter Tryd.func22, Tryd.ntmps22
     go_wp2_with (go_at_call 14; refine (HV.out _).mono ?_; rintro e w' ⟨rfl, rfl⟩)
     go_ret2
     exact ⟨rfl, hB⟩
   ·by_cases hneg : n < 0
    ·obtain ⟨d1, d2⟩ := denB_is hD
     have h3' : decide (den < 1) = false := decide_eq_false (by omega)
     have h4' : decide (1000000 < den) = false := decide_eq_false (by omega)
     obtain ⟨c, rfl⟩ : ∃ c, n = -c := ⟨-n, by omega⟩
     rw [amtB_neg] at h0
     have hP := fun w => mrport_ok c num den w h0 (by omega) hN hD
     obtain ⟨n1, n2⟩ := amtB_is h0
     rw [Int.neg_mul, hr_neg (by omega), amV_neg, amE_neg]
     obtain ⟨v1, v2⟩ := amV_bd (hr (c * num) den)
     generalize amV (hr (c * num) den) = V at *
     generalize amE (hr (c * num) den) = E at *
     have HP := Lib.hid hP
     clear hP hD hN h0
     go_enter Tryd.func22, Tryd.ntmps22
     go_wp2_with (first | (go_at_call 14; refine (HV.out _).mono ?_; rintro e w' ⟨rfl, rfl⟩) | (go_at_call 22; refine (HP.out _).mono ?_; rintro e w' ⟨rfl, hb⟩; replace hB := below_more hB hb; clear hb))
     go_ret2
     exact ⟨rfl, hB⟩
    ·exact mrport_ok n num den w h0 (by omega) hN hD
theorem law_mportion (n num den : Int) (w : World) (ht : DTab w.heap.size w) : Calls Tryd.prog 6 #[.int .i64 n, .int .i64 num, .int .i64 den] w fun e w' => e = .returned (.bool true) ∧ Below w.heap.size w w' := by
 have hq := fun w => portion_any n num den w
 have hr' := fun w => mrportion_any n num den w
 generalize portV n num den = V at *
 generalize portE n num den = E at *
 have HQ := Lib.hid hq
 have HR := Lib.hid hr'
 have HT := Lib.hid ht
 clear hq hr' ht
 have hB := Below.refl w.heap.size w
 go_enter Tryd.func6, Tryd.ntmps6
 go_wp2_with (first | (go_at_call 12; refine (mawake_any _ HT.out).mono ?_; rintro e w' ⟨rfl, hb⟩; replace hB := below_more hB hb; clear hb) | (go_at_call 21; refine (HQ.out _).mono ?_; rintro e w' ⟨rfl, hb⟩; replace hB := below_more hB hb; clear hb) | (go_at_call 22; refine (HR.out _).mono ?_; rintro e w' ⟨rfl, hb⟩; replace hB := below_more hB hb; clear hb))
 go_ret
 exact ⟨rfl, hB⟩
end Go.Proofs.YthndbonfcdphgaaDoor
