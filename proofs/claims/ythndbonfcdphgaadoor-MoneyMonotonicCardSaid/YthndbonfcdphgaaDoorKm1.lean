/- Contracts and the law of MoneyMonotonic, part 1: what was proved of each, callees first. -/
import Derived.Test.YthndbonfcdphgaaDoorK1
namespace Go.Proofs.YthndbonfcdphgaaDoor
open Go.RowKit
theorem amV_bd (x : Int) : -1000000000000 ≤ amV x ∧ amV x ≤ 1000000000000 := by
 unfold amV
 by_cases h : amtB x = true
 ·rw [if_pos h]; exact amtB_is h
 ·rw [if_neg h]; omega
theorem conv_is {n r : Int} (hn : -1000000000000 ≤ n ∧ n ≤ 1000000000000) (h : 1 ≤ r ∧ r ≤ 4294967295) : convV n r = amV (hr (n * r) 1000000) ∧ convE n r = amE (hr (n * r) 1000000) := by
 have h1 : (amtB n && rateB r) = true := by simp [amtB, rateB]; omega
 unfold convV convE
 rw [if_pos h1, if_pos h1]
 exact ⟨rfl, rfl⟩
theorem hr_unit (a : Int) : hr (a * 1000000) 1000000 = a := by
 rw [hr_split (by omega) (by omega), show (1000000 : Int) / 1000000 = 1 from rfl, show (1000000 : Int) % 1000000 = 0 from rfl, Int.mul_zero, hr_zero (by omega)]
 omega
theorem hr_sum (a b r : Int) : -1 ≤ hr ((a + b) * r) 1000000 - hr (a * r) 1000000 - hr (b * r) 1000000 ∧ hr ((a + b) * r) 1000000 - hr (a * r) 1000000 - hr (b * r) 1000000 ≤ 1 := by
 have h1 := hr_near (a := a * r) (b := 1000000) (by omega)
 have h2 := hr_near (a := b * r) (b := 1000000) (by omega)
 have h3 := hr_near (a := (a + b) * r) (b := 1000000) (by omega)
 have e : (a + b) * r = a * r + b * r := Int.add_mul _ _ _
 omega
theorem hr_ord {a b r : Int} (hr0 : 0 ≤ r) (h : a ≤ b) : hr (a * r) 1000000 ≤ hr (b * r) 1000000 := hr_mono (by omega) (Int.mul_le_mul_of_nonneg_right h hr0)
set_option maxRecDepth 20000 in
set_option maxHeartbeats 6400000 in
theorem law_mmono (a b r : Int) (w : World) (ht : DTab w.heap.size w) (h1 : -2147483648 ≤ a ∧ a ≤ 2147483647) (h2 : -2147483648 ≤ b ∧ b ≤ 2147483647) (h3 : 0 ≤ r ∧ r ≤ 4294967295) : Calls Tryd.prog 8 #[.int .i32 a, .int .i32 b, .int .u32 r] w fun e w' => e = .returned (.bool true) ∧ Below w.heap.size w w' := by
 have HT := Lib.hid ht
 clear ht
 have hB := Below.refl w.heap.size w
 obtain ⟨a1, a2⟩ := h1
 obtain ⟨b1, b2⟩ := h2
 obtain ⟨r1, r2⟩ := h3
 by_cases h0 : r = 0
 ·subst h0
  go_enter Tryd.func8, Tryd.ntmps8
  go_wp2_with (go_at_call 12; refine (mawake_any _ HT.out).mono ?_; rintro e w' ⟨rfl, hb⟩; replace hB := below_more hB hb; clear hb)
  go_ret
  exact ⟨rfl, hB⟩
 ·have hz : (r == 0) = false := by simpa using h0
  have hA := fun w => convert_any a r w
  have hX := fun w => convert_any b r w
  have hC := fun w => convert_any (a + b) r w
  have hS := fun w => convert_any a 1000000 w
  have cA := conv_is (n := a) (r := r) ⟨by omega, by omega⟩ ⟨by omega, by omega⟩
  have cX := conv_is (n := b) (r := r) ⟨by omega, by omega⟩ ⟨by omega, by omega⟩
  have cC := conv_is (n := a + b) (r := r) ⟨by omega, by omega⟩ ⟨by omega, by omega⟩
  have cS := conv_is (n := a) (r := 1000000) ⟨by omega, by omega⟩ ⟨by omega, by omega⟩
  rw [hr_unit] at cS
  have okS : amtB a = true := amtB_mk (by omega) (by omega)
  have eS : amV a = a ∧ amE a = 0 := by unfold amV amE; rw [okS]; exact ⟨rfl, rfl⟩
  rw [cA.1, cA.2] at hA
  rw [cX.1, cX.2] at hX
  rw [cC.1, cC.2] at hC
  rw [cS.1, cS.2, eS.1, eS.2] at hS
  have hd := hr_sum a b r
  have ho1 := fun h => hr_ord (a := a) (b := b) (r := r) r1 h
  have ho2 := fun h => hr_ord (a := b) (b := a) (r := r) r1 h
  clear cA cX cC cS eS okS
  generalize hr (a * r) 1000000 = X at *
  generalize hr (b * r) 1000000 = Y at *
  generalize hr ((a + b) * r) 1000000 = Z at *
  have HS := Lib.hid hS
  have vx := amV_bd X
  have vy := amV_bd Y
  have vz := amV_bd Z
  by_cases k1 : amtB X = true
  ·have eX : amV X = X ∧ amE X = 0 := by unfold amV amE; rw [k1]; exact ⟨rfl, rfl⟩
   by_cases k2 : amtB Y = true
   ·have eY : amV Y = Y ∧ amE Y = 0 := by unfold amV amE; rw [k2]; exact ⟨rfl, rfl⟩
    by_cases k3 : amtB Z = true
    ·have eZ : amV Z = Z ∧ amE Z = 0 := by unfold amV amE; rw [k3]; exact ⟨rfl, rfl⟩
     rw [eX.1] at vx
     rw [eY.1] at vy
     rw [eZ.1] at vz
     rw [eX.1, eX.2] at hA
     rw [eY.1, eY.2] at hX
     rw [eZ.1, eZ.2] at hC
     have HA := Lib.hid hA
     have HX := Lib.hid hX
     have HC := Lib.hid hC
     obtain ⟨d1, d2⟩ := hd
     obtain ⟨x1, x2⟩ := vx
     obtain ⟨y1, y2⟩ := vy
     obtain ⟨z1, z2⟩ := vz
     obtain ⟨D, hD⟩ : ∃ D, Z - X - Y = D := ⟨_, rfl⟩
     rw [hD] at d1 d2
     clear hA hX hC hS k1 k2 k3 eX eY eZ h0
     have hc : a < b ∨ a = b ∨ b < a := by omega
     rcases hc with h | h | h
     ·have hle := ho1 (by omega)
      have g1 : decide (b < a) = false := decide_eq_false (by omega)
      clear ho1 ho2
      go_enter Tryd.func8, Tryd.ntmps8
      go_wp2_with (first | (go_at_call 12; refine (mawake_any _ HT.out).mono ?_; rintro e w' ⟨rfl, hb⟩; replace hB := below_more hB hb; clear hb) | (go_at_call 19; first | ((with_reducible refine (HA.out _).mono ?_); rintro e w' ⟨rfl, hb⟩; replace hB := below_more hB hb; clear hb) | ((with_reducible refine (HX.out _).mono ?_); rintro e w' ⟨rfl, hb⟩; replace hB := below_more hB hb; clear hb) | ((with_reducible refine (HC.out _).mono ?_); rintro e w' ⟨rfl, hb⟩; replace hB := below_more hB hb; clear hb) | ((with_reducible refine (HS.out _).mono ?_); rintro e w' ⟨rfl, hb⟩; replace hB := below_more hB hb; clear hb)))
      go_ret
      exact ⟨rfl, hB⟩
     ·subst h
      have hle := ho1 (by omega)
      have hge := ho2 (by omega)
      have g1 : decide (a < a) = false := decide_eq_false (by omega)
      clear ho1 ho2
      have hXY : X = Y := by omega
      subst hXY
      clear hle hge
      go_enter Tryd.func8, Tryd.ntmps8
      go_wp2_with (first | (go_at_call 12; refine (mawake_any _ HT.out).mono ?_; rintro e w' ⟨rfl, hb⟩; replace hB := below_more hB hb; clear hb) | (go_at_call 19; first | ((with_reducible refine (HA.out _).mono ?_); rintro e w' ⟨rfl, hb⟩; replace hB := below_more hB hb; clear hb) | ((with_reducible refine (HX.out _).mono ?_); rintro e w' ⟨rfl, hb⟩; replace hB := below_more hB hb; clear hb) | ((with_reducible refine (HC.out _).mono ?_); rintro e w' ⟨rfl, hb⟩; replace hB := below_more hB hb; clear hb) | ((with_reducible refine (HS.out _).mono ?_); rintro e w' ⟨rfl, hb⟩; replace hB := below_more hB hb; clear hb)))
      go_ret
      exact ⟨rfl, hB⟩
     ·have hge := ho2 (by omega)
      have g1 : decide (a < b) = false := decide_eq_false (by omega)
      clear ho1 ho2
      go_enter Tryd.func8, Tryd.ntmps8
      go_wp2_with (first | (go_at_call 12; refine (mawake_any _ HT.out).mono ?_; rintro e w' ⟨rfl, hb⟩; replace hB := below_more hB hb; clear hb) | (go_at_call 19; first | ((with_reducible refine (HA.out _).mono ?_); rintro e w' ⟨rfl, hb⟩; replace hB := below_more hB hb; clear hb) | ((with_reducible refine (HX.out _).mono ?_); rintro e w' ⟨rfl, hb⟩; replace hB := below_more hB hb; clear hb) | ((with_reducible refine (HC.out _).mono ?_); rintro e w' ⟨rfl, hb⟩; replace hB := below_more hB hb; clear hb) | ((with_reducible refine (HS.out _).mono ?_); rintro e w' ⟨rfl, hb⟩; replace hB := below_more hB hb; clear hb)))
      go_ret
      exact ⟨rfl, hB⟩
    ·have eZ : amV Z = 0 ∧ amE Z = 2 := by unfold amV amE; rw [if_neg k3, if_neg k3]; exact ⟨rfl, rfl⟩
     rw [eX.2] at hA
     rw [eY.2] at hX
     rw [eZ.1, eZ.2] at hC
     generalize amV X = VX at *
     generalize amV Y = VY at *
     have HA := Lib.hid hA
     have HX := Lib.hid hX
     have HC := Lib.hid hC
     clear hA hX hC hS k1 k2 k3 eX eY eZ h0 ho1 ho2 hd vx vy vz
     go_enter Tryd.func8, Tryd.ntmps8
     go_wp2_with (first | (go_at_call 12; refine (mawake_any _ HT.out).mono ?_; rintro e w' ⟨rfl, hb⟩; replace hB := below_more hB hb; clear hb) | (go_at_call 19; first | ((with_reducible refine (HA.out _).mono ?_); rintro e w' ⟨rfl, hb⟩; replace hB := below_more hB hb; clear hb) | ((with_reducible refine (HX.out _).mono ?_); rintro e w' ⟨rfl, hb⟩; replace hB := below_more hB hb; clear hb) | ((with_reducible refine (HC.out _).mono ?_); rintro e w' ⟨rfl, hb⟩; replace hB := below_more hB hb; clear hb) | ((with_reducible refine (HS.out _).mono ?_); rintro e w' ⟨rfl, hb⟩; replace hB := below_more hB hb; clear hb)))
     go_ret
     exact ⟨rfl, hB⟩
   ·have eY : amV Y = 0 ∧ amE Y = 2 := by unfold amV amE; rw [if_neg k2, if_neg k2]; exact ⟨rfl, rfl⟩
    have eZ : amE Z = 0 ∨ amE Z = 2 := by unfold amE; by_cases k : amtB Z = true <;> simp [k]
    rw [eX.2] at hA
    rw [eY.1, eY.2] at hX
    generalize amV X = VX at *
    generalize amV Z = VZ at *
    generalize amE Z = EZ at *
    clear hS k1 k2 eX eY h0 ho1 ho2 hd vx vy vz
    have HA := Lib.hid hA
    have HX := Lib.hid hX
    clear hA hX
    rcases eZ with rfl | rfl
    all_goals
     have HC := Lib.hid hC
     clear hC
     go_enter Tryd.func8, Tryd.ntmps8
     go_wp2_with (first | (go_at_call 12; refine (mawake_any _ HT.out).mono ?_; rintro e w' ⟨rfl, hb⟩; replace hB := below_more hB hb; clear hb) | (go_at_call 19; first | ((with_reducible refine (HA.out _).mono ?_); rintro e w' ⟨rfl, hb⟩; replace hB := below_more hB hb; clear hb) | ((with_reducible refine (HX.out _).mono ?_); rintro e w' ⟨rfl, hb⟩; replace hB := below_more hB hb; clear hb) | ((with_reducible refine (HC.out _).mono ?_); rintro e w' ⟨rfl, hb⟩; replace hB := below_more hB hb; clear hb) | ((with_reducible refine (HS.out _).mono ?_); rintro e w' ⟨rfl, hb⟩; replace hB := below_more hB hb; clear hb)))
     go_ret
     exact ⟨rfl, hB⟩
  ·have eX : amV X = 0 ∧ amE X = 2 := by unfold amV amE; rw [if_neg k1, if_neg k1]; exact ⟨rfl, rfl⟩
   have eY : amE Y = 0 ∨ amE Y = 2 := by unfold amE; by_cases k : amtB Y = true <;> simp [k]
   have eZ : amE Z = 0 ∨ amE Z = 2 := by unfold amE; by_cases k : amtB Z = true <;> simp [k]
   rw [eX.1, eX.2] at hA
   generalize amV Y = VY at *
   generalize amV Z = VZ at *
   generalize amE Y = EY at *
   generalize amE Z = EZ at *
   clear hS k1 eX h0 ho1 ho2 hd vx vy vz
   have HA := Lib.hid hA
   clear hA
   rcases eY with rfl | rfl
   all_goals
    have HX := Lib.hid hX
    clear hX
    rcases eZ with rfl | rfl
    all_goals
     have HC := Lib.hid hC
     clear hC
     go_enter Tryd.func8, Tryd.ntmps8
     go_wp2_with (first | (go_at_call 12; refine (mawake_any _ HT.out).mono ?_; rintro e w' ⟨rfl, hb⟩; replace hB := below_more hB hb; clear hb) | (go_at_call 19; first | ((with_reducible refine (HA.out _).mono ?_); rintro e w' ⟨rfl, hb⟩; replace hB := below_more hB hb; clear hb) | ((with_reducible refine (HX.out _).mono ?_); rintro e w' ⟨rfl, hb⟩; replace hB := below_more hB hb; clear hb) | ((with_reducible refine (HC.out _).mono ?_); rintro e w' ⟨rfl, hb⟩; replace hB := below_more hB hb; clear hb) | ((with_reducible refine (HS.out _).mono ?_); rintro e w' ⟨rfl, hb⟩; replace hB := below_more hB hb; clear hb)))
     go_ret
     exact ⟨rfl, hB⟩
end Go.Proofs.YthndbonfcdphgaaDoor
