/- Contracts of the functions that the statements reach, part 5: what was proved of each, callees first. -/
import Derived.Shelf.SlGeneric
import Derived.Laws.RangeAny
import Derived.Outline
import Derived.Test.YtaeccljkmijpaaaGreatLS4
namespace Go.Proofs.YtaeccljkmijpaaaGreat
open Go.RowKit
theorem dec_nat {a b : Nat} : decide ((a : Int) ≤ (b : Int)) = decide (a ≤ b) := by
 by_cases h : a ≤ b
 ·rw [decide_eq_true h, decide_eq_true (by omega)]
 ·rw [decide_eq_false h, decide_eq_false (by omega)]
theorem gcap_any (b : UInt8) (w : World) : Calls Tryz.prog 142 #[.int .u8 (b.toNat : Int)] w fun e w' => e = .returned (.bool (capB b)) ∧ w = w' := by
 unfold capB
 rcases Nat.lt_or_ge b.toNat 65 with h1 | h1
 ·have e1 : decide ((65 : Int) ≤ (b.toNat : Int)) = false := decide_eq_false (by omega)
  have e2 : decide (65 ≤ b.toNat) = false := decide_eq_false (by omega)
  rw [e2]
  clear h1
  go_enter Tryz.func142, Tryz.ntmps142
  go_wp2_with fail
  go_ret
  exact ⟨rfl, rfl⟩
 ·have e1 : decide ((65 : Int) ≤ (b.toNat : Int)) = true := decide_eq_true (by omega)
  have e2 : decide (65 ≤ b.toNat) = true := decide_eq_true (by omega)
  have e3 : decide ((b.toNat : Int) ≤ (90 : Int)) = decide (b.toNat ≤ 90) := dec_nat (b := 90)
  rw [e2]
  clear h1
  go_enter Tryz.func142, Tryz.ntmps142
  go_wp2_with fail
  go_ret
  exact ⟨rfl, rfl⟩
theorem gdig_any (b : UInt8) (w : World) : Calls Tryz.prog 190 #[.int .u8 (b.toNat : Int)] w fun e w' => e = .returned (.bool (digB b)) ∧ w = w' := by
 unfold digB
 rcases Nat.lt_or_ge b.toNat 48 with h1 | h1
 ·have e1 : decide ((48 : Int) ≤ (b.toNat : Int)) = false := decide_eq_false (by omega)
  have e2 : decide (48 ≤ b.toNat) = false := decide_eq_false (by omega)
  rw [e2]
  clear h1
  go_enter Tryz.func190, Tryz.ntmps190
  go_wp2_with fail
  go_ret
  exact ⟨rfl, rfl⟩
 ·have e1 : decide ((48 : Int) ≤ (b.toNat : Int)) = true := decide_eq_true (by omega)
  have e2 : decide (48 ≤ b.toNat) = true := decide_eq_true (by omega)
  have e3 : decide ((b.toNat : Int) ≤ (57 : Int)) = decide (b.toNat ≤ 57) := dec_nat (b := 57)
  rw [e2]
  clear h1
  go_enter Tryz.func190, Tryz.ntmps190
  go_wp2_with fail
  go_ret
  exact ⟨rfl, rfl⟩
theorem glet_any (b : UInt8) (w : World) : Calls Tryz.prog 189 #[.int .u8 (b.toNat : Int)] w fun e w' => e = .returned (.bool (letB b)) ∧ w = w' := by
 have hc := fun w => gcap_any b w
 unfold letB
 cases hq : capB b
 ·rw [hq] at hc
  have HC := Lib.hid hc
  clear hc hq
  rcases Nat.lt_or_ge b.toNat 97 with h1 | h1
  ·have e1 : decide ((97 : Int) ≤ (b.toNat : Int)) = false := decide_eq_false (by omega)
   have e2 : decide (97 ≤ b.toNat) = false := decide_eq_false (by omega)
   rw [e2]
   clear h1
   go_enter Tryz.func189, Tryz.ntmps189
   go_wp2_with (go_at_call 142; refine (HC.out _).mono ?_; rintro e w1 ⟨rfl, rfl⟩)
   go_ret
   exact ⟨rfl, rfl⟩
  ·have e1 : decide ((97 : Int) ≤ (b.toNat : Int)) = true := decide_eq_true (by omega)
   have e2 : decide (97 ≤ b.toNat) = true := decide_eq_true (by omega)
   have e3 : decide ((b.toNat : Int) ≤ (122 : Int)) = decide (b.toNat ≤ 122) := dec_nat (b := 122)
   rw [e2]
   clear h1
   go_enter Tryz.func189, Tryz.ntmps189
   go_wp2_with (go_at_call 142; refine (HC.out _).mono ?_; rintro e w1 ⟨rfl, rfl⟩)
   go_ret
   exact ⟨rfl, rfl⟩
 ·rw [hq] at hc
  have HC := Lib.hid hc
  clear hc hq
  go_enter Tryz.func189, Tryz.ntmps189
  go_wp2_with (go_at_call 142; refine (HC.out _).mono ?_; rintro e w1 ⟨rfl, rfl⟩)
  go_ret
  exact ⟨rfl, rfl⟩
theorem rlet_any (b : UInt8) (w : World) : Calls Tryz.prog 161 #[.int .u8 (b.toNat : Int)] w fun e w' => e = .returned (.bool (letB b)) ∧ w = w' := by
 obtain ⟨z, hz⟩ : ∃ z : Int, (b.toNat : Int) = z := ⟨_, rfl⟩
 have hv : letB b = ((decide (65 ≤ z) && decide (z ≤ 90)) || (decide (97 ≤ z) && decide (z ≤ 122))) := by
  unfold letB capB
  rw [← hz]
  congr 1 <;> congr 1 <;> exact dec_nat.symm
 rw [hv, hz]
 clear hv hz
 have R : ∀ {r : Bool}, ((decide (65 ≤ z) && decide (z ≤ 90)) || (decide (97 ≤ z) && decide (z ≤ 122))) = r → Calls Tryz.prog 161 #[.int .u8 z] w fun e w' => e = .returned (.bool r) ∧ w = w' := by
  intro r hr
  rcases (show z < 65 ∨ (65 ≤ z ∧ z ≤ 90) ∨ (90 < z ∧ z < 97) ∨ (97 ≤ z ∧ z ≤ 122) ∨ 122 < z from by omega) with h | h | h | h | h
  ·have d0 : decide (97 ≤ z) = false := decide_eq_false (by omega)
   have d1 : decide (65 ≤ z) = false := decide_eq_false (by omega)
   obtain rfl : r = false := by rw [← hr]; simp; omega
   clear hr h
   go_enter Tryz.func161, Tryz.ntmps161
   go_wp2_with fail
   go_ret
   exact ⟨rfl, rfl⟩
  ·have d0 : decide (97 ≤ z) = false := decide_eq_false (by omega)
   have d1 : decide (65 ≤ z) = true := decide_eq_true (by omega)
   have d2 : decide (z ≤ 90) = true := decide_eq_true (by omega)
   obtain rfl : r = true := by rw [← hr]; simp; omega
   clear hr h
   go_enter Tryz.func161, Tryz.ntmps161
   go_wp2_with fail
   go_ret
   exact ⟨rfl, rfl⟩
  ·have d0 : decide (97 ≤ z) = false := decide_eq_false (by omega)
   have d1 : decide (65 ≤ z) = true := decide_eq_true (by omega)
   have d2 : decide (z ≤ 90) = false := decide_eq_false (by omega)
   obtain rfl : r = false := by rw [← hr]; simp; omega
   clear hr h
   go_enter Tryz.func161, Tryz.ntmps161
   go_wp2_with fail
   go_ret
   exact ⟨rfl, rfl⟩
  ·have d0 : decide (97 ≤ z) = true := decide_eq_true (by omega)
   have d1 : decide (z ≤ 122) = true := decide_eq_true (by omega)
   obtain rfl : r = true := by rw [← hr]; simp; omega
   clear hr h
   go_enter Tryz.func161, Tryz.ntmps161
   go_wp2_with fail
   go_ret
   exact ⟨rfl, rfl⟩
  ·have d0 : decide (97 ≤ z) = true := decide_eq_true (by omega)
   have d1 : decide (z ≤ 122) = false := decide_eq_false (by omega)
   have d2 : decide (65 ≤ z) = true := decide_eq_true (by omega)
   have d3 : decide (z ≤ 90) = false := decide_eq_false (by omega)
   obtain rfl : r = false := by rw [← hr]; simp; omega
   clear hr h
   go_enter Tryz.func161, Tryz.ntmps161
   go_wp2_with fail
   go_ret
   exact ⟨rfl, rfl⟩
 exact R rfl
theorem gcur_any (s : ByteArray) (w : World) : Calls Tryz.prog 109 #[.string s] w fun e w' => e = .returned (.bool (curB s)) ∧ w = w' := by
 have hc := fun b w => gcap_any b w
 by_cases h3 : s.size = 3
 ·have e3 : ((s.size : Int) != 3) = false := by rw [h3]; rfl
  have HC := Lib.hid hc
  have H3 := Lib.hid h3
  have hnz : s.size ≤ 1000 := by omega
  clear hc h3
  go_enter Tryz.func109, Tryz.ntmps109
  go_wp2_with fail
  go_loop [9] (fun v => ∃ i : Nat, i ≤ s.size ∧ v = .int .i64 i ∧ Hid (∀ j, j < i → (h2 : j < s.size) → capB (s[j]'h2) = true)) (fun v => s.size - (intOf v).toNat)
  case atStart => exact ⟨0, by omega, rfl, fun j h => absurd h (by omega)⟩
  case round =>
   obtain ⟨i, hi, rfl, hd⟩ := hrel
   by_cases hlt : i < s.size
   ·have hlt' : (i : Int) < (s.size : Int) := by omega
    have hno := fun h => curB_no (s := s) hlt h
    obtain ⟨b, hb⟩ : ∃ b, s[i]'hlt = b := ⟨_, rfl⟩
    have hcb : ∀ h, s[i]'h = b := fun h => hb
    rw [hb] at hno
    have HB := Lib.hid hb
    have hcc := HC.out b
    clear hb
    cases hq : capB b
    ·have he := Lib.hid (hno hq)
     rw [hq] at hcc
     have HCC := Lib.hid hcc
     clear hno hcc hq
     go_wp2_with (go_at_call 142; refine (HCC.out _).mono ?_; rintro e w1 ⟨rfl, rfl⟩)
     go_ret
     exact ⟨by rw [he.out]; rfl, rfl⟩
    ·rw [hq] at hcc
     have HCC := Lib.hid hcc
     have hd2 : Hid (∀ j, j < i + 1 → (h2 : j < s.size) → capB (s[j]'h2) = true) := Lib.hid fun j hj h2 => by
      rcases Nat.lt_or_ge j i with h4 | h4
      ·exact hd.out j h4 h2
      ·obtain rfl : j = i := by omega
       rw [HB.out]; exact hq
     clear hno hcc hq hd
     go_wp2_with (go_at_call 142; refine (HCC.out _).mono ?_; rintro e w1 ⟨rfl, rfl⟩)
     go_round
     case measure => simp [intOf]; omega
     case rel => exact ⟨i + 1, by omega, by go_num, hd2⟩
   ·obtain rfl : i = s.size := by omega
    have hlt' : ¬ ((s.size : Int) < (s.size : Int)) := by omega
    have he : Hid (curB s = true) := Lib.hid (by unfold curB; rw [decide_eq_true H3.out, allC_yes fun j h2 => hd.out j (by omega) h2]; rfl)
    go_wp2_with fail
    go_ret
    exact ⟨by rw [he.out]; rfl, rfl⟩
 ·have e3 : ((s.size : Int) != 3) = true := by simp; omega
  have he : Hid (curB s = false) := Lib.hid (by unfold curB; rw [decide_eq_false h3]; rfl)
  clear hc h3
  go_enter Tryz.func109, Tryz.ntmps109
  go_wp2_with fail
  go_ret
  exact ⟨by rw [he.out]; rfl, rfl⟩
theorem nam_or (b : UInt8) : namB b = (letB b || (digB b || decide ((b.toNat : Int) = 45))) := by
 unfold namB
 congr 2
 by_cases h : b.toNat = 45
 ·rw [decide_eq_true h, decide_eq_true (by omega)]
 ·rw [decide_eq_false h, decide_eq_false (by omega)]
theorem gnam_any (s : ByteArray) (w : World) : Calls Tryz.prog 174 #[.string s] w fun e w' => e = .returned (.bool (nameB s)) ∧ w = w' := by
 have hc := fun b w => glet_any b w
 have hg := fun b w => gdig_any b w
 by_cases h0 : s.size = 0
 ·have e0 : ((s.size : Int) == 0) = true := by rw [h0]; rfl
  have he := Lib.hid (nameB_nil h0)
  clear hc hg h0
  go_enter Tryz.func174, Tryz.ntmps174
  go_wp2_with fail
  go_ret
  exact ⟨by rw [he.out]; rfl, rfl⟩
 have e0 : ((s.size : Int) == 0) = false := beq_eq_false_iff_ne.2 (by omega)
 by_cases h16 : 16 < s.size
 ·have e1 : decide ((16 : Int) < (s.size : Int)) = true := decide_eq_true (by omega)
  have he := Lib.hid (nameB_long h16)
  clear hc hg h0 h16
  go_enter Tryz.func174, Tryz.ntmps174
  go_wp2_with fail
  go_ret
  exact ⟨by rw [he.out]; rfl, rfl⟩
 have e1 : decide ((16 : Int) < (s.size : Int)) = false := decide_eq_false (by omega)
 have h0' : 0 < s.size := by omega
 have h0z : (0 : Int) < (s.size : Int) := by omega
 obtain ⟨f, hf⟩ : ∃ f, s[0]'h0' = f := ⟨_, rfl⟩
 have hfb : ∀ h, s[0]'h = f := fun h => hf
 have hff := hc f
 cases hl : letB f
 ·have he := Lib.hid (nameB_fr h0' (by rw [hf]; exact hl))
  rw [hl] at hff
  have HFF := Lib.hid hff
  clear hc hg hff hl h0 h16 hf
  go_enter Tryz.func174, Tryz.ntmps174
  go_wp2_with (go_at_call 189; refine (HFF.out _).mono ?_; rintro e w1 ⟨rfl, rfl⟩)
  go_ret
  exact ⟨by rw [he.out]; rfl, rfl⟩
 rw [hl] at hff
 have HFF := Lib.hid hff
 have HF := Lib.hid (show letB (s[0]'h0') = true by rw [hf]; exact hl)
 have HC := Lib.hid hc
 have HG := Lib.hid hg
 have H16 := Lib.hid h16
 have HEnd := Lib.hid (fun ha => nameB_yes h0' (show s.size ≤ 16 by omega) HF.out ha)
 clear hc hg hff hl h0 h16 hf
 have hsz : s.size ≤ 1000 := by have := H16.out; omega
 go_enter Tryz.func174, Tryz.ntmps174
 go_wp2_with (go_at_call 189; refine (HFF.out _).mono ?_; rintro e w1 ⟨rfl, rfl⟩)
 clear hfb
 go_loop [20] (fun v => ∃ i : Nat, i ≤ s.size ∧ v = .int .i64 i ∧ Hid (∀ j, j < i → (h2 : j < s.size) → namB (s[j]'h2) = true)) (fun v => s.size - (intOf v).toNat)
 case atStart => exact ⟨0, by omega, rfl, fun j h => absurd h (by omega)⟩
 case round =>
  obtain ⟨i, hi, rfl, hd⟩ := hrel
  by_cases hlt : i < s.size
  ·have hlt' : (i : Int) < (s.size : Int) := by omega
   have hno := fun h => nameB_no (s := s) hlt h
   obtain ⟨b, hb⟩ : ∃ b, s[i]'hlt = b := ⟨_, rfl⟩
   have hcb : ∀ h, s[i]'h = b := fun h => hb
   have hnx : namB b = true → Hid (∀ j, j < i + 1 → (h2 : j < s.size) → namB (s[j]'h2) = true) := fun hq => Lib.hid fun j hj h2 => by
    rcases Nat.lt_or_ge j i with h4 | h4
    ·exact hd.out j h4 h2
    ·obtain rfl : j = i := by omega
     rw [hb]; exact hq
   rw [hb, nam_or] at hno
   rw [nam_or] at hnx
   have hcc := HC.out b
   have hgg := HG.out b
   clear hb
   generalize letB b = q1 at *
   generalize digB b = q2 at *
   obtain ⟨q3, hq3⟩ : ∃ q3, decide ((b.toNat : Int) = 45) = q3 := ⟨_, rfl⟩
   have e3 : ((b.toNat : Int) != 45) = !q3 := by rw [← hq3]; by_cases h : (b.toNat : Int) = 45 <;> simp [h]
   rw [hq3] at hno hnx
   have HCC := Lib.hid hcc
   have HGG := Lib.hid hgg
   clear hcc hgg hq3
   rcases (show q1 = true ∨ (q1 = false ∧ q2 = true) ∨ (q1 = false ∧ q2 = false ∧ q3 = true) ∨ (q1 = false ∧ q2 = false ∧ q3 = false) from by cases q1 <;> cases q2 <;> cases q3 <;> simp) with rfl | ⟨rfl, rfl⟩ | ⟨rfl, rfl, rfl⟩ | ⟨rfl, rfl, rfl⟩
   ·have hd2 := hnx rfl
    clear hno hnx hd
    go_wp2_with (go_at_call 189; refine (HCC.out _).mono ?_; rintro e w1 ⟨rfl, rfl⟩)
    go_round
    case measure => simp [intOf]; omega
    case rel => exact ⟨i + 1, by omega, by go_num, hd2⟩
   ·have hd2 := hnx rfl
    clear hno hnx hd
    go_wp2_with (first | (go_at_call 189; refine (HCC.out _).mono ?_; rintro e w1 ⟨rfl, rfl⟩) | (go_at_call 190; refine (HGG.out _).mono ?_; rintro e w1 ⟨rfl, rfl⟩))
    go_round
    case measure => simp [intOf]; omega
    case rel => exact ⟨i + 1, by omega, by go_num, hd2⟩
   ·have hd2 := hnx rfl
    clear hno hnx hd
    go_wp2_with (first | (go_at_call 189; refine (HCC.out _).mono ?_; rintro e w1 ⟨rfl, rfl⟩) | (go_at_call 190; refine (HGG.out _).mono ?_; rintro e w1 ⟨rfl, rfl⟩))
    go_round
    case measure => simp [intOf]; omega
    case rel => exact ⟨i + 1, by omega, by go_num, hd2⟩
   ·have he := Lib.hid (hno rfl)
    clear hno hnx hd
    go_wp2_with (first | (go_at_call 189; refine (HCC.out _).mono ?_; rintro e w1 ⟨rfl, rfl⟩) | (go_at_call 190; refine (HGG.out _).mono ?_; rintro e w1 ⟨rfl, rfl⟩))
    go_ret
    exact ⟨by rw [he.out]; rfl, rfl⟩
  ·obtain rfl : i = s.size := by omega
   have hlt' : ¬ ((s.size : Int) < (s.size : Int)) := by omega
   have he := Lib.hid (HEnd.out fun j h2 => hd.out j (by omega) h2)
   go_wp2_with fail
   go_ret
   exact ⟨by rw [he.out]; rfl, rfl⟩
theorem rcur_any (s : ByteArray) (w : World) (hs : s.size ≤ maxLen) : Calls Tryz.prog 120 #[.string s] w fun e w' => e = .returned (.bool (curB s)) ∧ w = w' := by
 have hs2 : s.size ≤ 9223372036854775807 := hs
 clear hs
 go_enter Tryz.func120, Tryz.ntmps120
 go_wp2_with fail
 go_loop [3] (fun v => ∃ i : Nat, i ≤ s.size ∧ v = .int .i64 i ∧ Hid (∀ j, j < i → (h2 : j < s.size) → capB (s[j]'h2) = true)) (fun v => s.size - (intOf v).toNat)
 case atStart => exact ⟨0, by omega, rfl, fun j h => absurd h (by omega)⟩
 case round =>
  obtain ⟨i, hi, rfl, hd⟩ := hrel
  by_cases hlt : i < s.size
  ·have hlt' : (i : Int) < (s.size : Int) := by omega
   have hno := fun h => curB_no (s := s) hlt h
   obtain ⟨b, hb⟩ : ∃ b, s[i]'hlt = b := ⟨_, rfl⟩
   have hcb : ∀ h, s[i]'h = b := fun h => hb
   have hnx : capB b = true → Hid (∀ j, j < i + 1 → (h2 : j < s.size) → capB (s[j]'h2) = true) := fun hq => Lib.hid fun j hj h2 => by
    rcases Nat.lt_or_ge j i with h4 | h4
    ·exact hd.out j h4 h2
    ·obtain rfl : j = i := by omega
     rw [hb]; exact hq
   rw [hb] at hno
   have hv : capB b = (decide (65 ≤ b.toNat) && decide (b.toNat ≤ 90)) := rfl
   clear hb
   rcases Nat.lt_or_ge b.toNat 65 with h1 | h1
   ·have e1 : decide ((b.toNat : Int) < 65) = true := decide_eq_true (by omega)
    have he := Lib.hid (hno (by rw [hv, decide_eq_false (show ¬ 65 ≤ b.toNat by omega)]; rfl))
    clear hno hnx hv hd h1
    go_wp2_with fail
    go_ret
    exact ⟨by rw [he.out]; rfl, rfl⟩
   have e1 : decide ((b.toNat : Int) < 65) = false := decide_eq_false (by omega)
   rcases Nat.lt_or_ge 90 b.toNat with h2 | h2
   ·have e2 : decide ((90 : Int) < (b.toNat : Int)) = true := decide_eq_true (by omega)
    have he := Lib.hid (hno (by rw [hv, decide_eq_false (show ¬ b.toNat ≤ 90 by omega)]; simp))
    clear hno hnx hv hd h1 h2
    go_wp2_with fail
    go_ret
    exact ⟨by rw [he.out]; rfl, rfl⟩
   ·have e2 : decide ((90 : Int) < (b.toNat : Int)) = false := decide_eq_false (by omega)
    have hd2 := hnx (by rw [hv, decide_eq_true h1, decide_eq_true h2]; rfl)
    clear hno hnx hv hd h1 h2
    go_wp2_with fail
    go_round
    case measure => simp [intOf]; omega
    case rel => exact ⟨i + 1, by omega, by go_num, hd2⟩
  ·obtain rfl : i = s.size := by omega
   have hlt' : ¬ ((s.size : Int) < (s.size : Int)) := by omega
   have he : Hid (curB s = ((s.size : Int) == 3)) := Lib.hid (by
    unfold curB; rw [allC_yes fun j h2 => hd.out j (by omega) h2]
    by_cases h : s.size = 3
    ·rw [h]; rfl
    ·rw [decide_eq_false h]; symm; simp; omega)
   go_wp2_with fail
   go_ret
   exact ⟨by rw [he.out]; rfl, rfl⟩
set_option maxRecDepth 20000 in
theorem rnam_any (s : ByteArray) (w : World) (hs : s.size ≤ maxLen) : Calls Tryz.prog 126 #[.string s] w fun e w' => e = .returned (.bool (nameB s)) ∧ w = w' := by
 have hs2 : s.size ≤ 9223372036854775807 := hs
 have hc := fun b w => rlet_any b w
 have HC := Lib.hid hc
 clear hs hc
 go_enter Tryz.func126, Tryz.ntmps126
 go_wp2_with fail
 go_loop [3] (fun v => ∃ i : Nat, i ≤ s.size ∧ v = .int .i64 i ∧ Hid ((∀ j, j < i → (h2 : j < s.size) → namB (s[j]'h2) = true) ∧ ((h : 0 < s.size) → 0 < i → letB (s[0]'h) = true))) (fun v => s.size - (intOf v).toNat)
 case atStart => exact ⟨0, by omega, rfl, ⟨fun j h => absurd h (by omega), fun _ h => absurd h (by omega)⟩⟩
 case round =>
  obtain ⟨i, hi, rfl, hd⟩ := hrel
  by_cases hlt : i < s.size
  ·have hlt' : (i : Int) < (s.size : Int) := by omega
   have hno := fun h => nameB_no (s := s) hlt h
   have hs0 : 0 < s.size := by omega
   have hno0 := fun h => nameB_fr (s := s) hs0 h
   obtain ⟨b, hb⟩ : ∃ b, s[i]'hlt = b := ⟨_, rfl⟩
   have hcb : ∀ h, s[i]'h = b := fun h => hb
   have hnx : namB b = true → (i = 0 → letB b = true) → Hid ((∀ j, j < i + 1 → (h2 : j < s.size) → namB (s[j]'h2) = true) ∧ ((h : 0 < s.size) → 0 < i + 1 → letB (s[0]'h) = true)) := fun hq hq0 => Lib.hid ⟨fun j hj h2 => by
    rcases Nat.lt_or_ge j i with h4 | h4
    ·exact hd.out.1 j h4 h2
    ·obtain rfl : j = i := by omega
     rw [hb]; exact hq, fun h _ => by
    rcases Nat.eq_zero_or_pos i with h4 | h4
    ·subst h4
     rw [hb]; exact hq0 rfl
    ·exact hd.out.2 h h4⟩
   have hno1 : i = 0 → letB b = false → nameB s = false := fun h1 h2 => by subst h1; exact hno0 (by rw [hb]; exact h2)
   rw [hb, nam_or] at hno
   rw [nam_or] at hnx
   have hcc := HC.out b
   have hdg : digB b = (decide (48 ≤ b.toNat) && decide (b.toNat ≤ 57)) := rfl
   clear hb hno0 hs0
   generalize letB b = q1 at *
   generalize digB b = q2 at *
   obtain ⟨q3, hq3⟩ : ∃ q3, decide ((b.toNat : Int) = 45) = q3 := ⟨_, rfl⟩
   have e3 : ((b.toNat : Int) != 45) = !q3 := by rw [← hq3]; by_cases h : (b.toNat : Int) = 45 <;> simp [h]
   rw [hq3] at hno hnx
   have HCC := Lib.hid hcc
   clear hcc hq3
   cases q1
   case true =>
    have hd2 := hnx rfl (fun _ => rfl)
    clear hno hnx hd hno1 hdg
    go_wp2_with (go_at_call 161; refine (HCC.out _).mono ?_; rintro e w1 ⟨rfl, rfl⟩)
    go_round
    case measure => simp [intOf]; omega
    case rel => exact ⟨i + 1, by omega, by go_num, hd2⟩
   by_cases hi0 : i = 0
   ·have he := Lib.hid (hno1 hi0 rfl)
    have ei : ((i : Int) == 0) = true := by simp; omega
    clear hno hnx hd hno1 hdg hi0
    go_wp2_with (go_at_call 161; refine (HCC.out _).mono ?_; rintro e w1 ⟨rfl, rfl⟩)
    go_ret
    exact ⟨by rw [he.out]; rfl, rfl⟩
   have ei : ((i : Int) == 0) = false := by simp; omega
   have hnx2 := fun h => hnx h (fun h0 => absurd h0 hi0)
   clear hi0 hno1 hnx
   cases q3
   case true =>
    have hd2 := hnx2 (by cases q2 <;> rfl)
    clear hno hnx2 hd hdg
    go_wp2_with (go_at_call 161; refine (HCC.out _).mono ?_; rintro e w1 ⟨rfl, rfl⟩)
    go_round
    case measure => simp [intOf]; omega
    case rel => exact ⟨i + 1, by omega, by go_num, hd2⟩
   rcases Nat.lt_or_ge b.toNat 48 with h1 | h1
   ·have e1 : decide ((b.toNat : Int) < 48) = true := decide_eq_true (by omega)
    have he := Lib.hid (hno (by rw [hdg, decide_eq_false (show ¬ 48 ≤ b.toNat by omega)]; rfl))
    clear hno hnx2 hdg hd h1
    go_wp2_with (go_at_call 161; refine (HCC.out _).mono ?_; rintro e w1 ⟨rfl, rfl⟩)
    go_ret
    exact ⟨by rw [he.out]; rfl, rfl⟩
   have e1 : decide ((b.toNat : Int) < 48) = false := decide_eq_false (by omega)
   rcases Nat.lt_or_ge 57 b.toNat with h2 | h2
   ·have e2 : decide ((57 : Int) < (b.toNat : Int)) = true := decide_eq_true (by omega)
    have he := Lib.hid (hno (by rw [hdg, decide_eq_false (show ¬ b.toNat ≤ 57 by omega)]; simp))
    clear hno hnx2 hdg hd h1 h2
    go_wp2_with (go_at_call 161; refine (HCC.out _).mono ?_; rintro e w1 ⟨rfl, rfl⟩)
    go_ret
    exact ⟨by rw [he.out]; rfl, rfl⟩
   ·have e2 : decide ((57 : Int) < (b.toNat : Int)) = false := decide_eq_false (by omega)
    have hd2 := hnx2 (by rw [hdg, decide_eq_true h1, decide_eq_true h2]; rfl)
    clear hno hnx2 hdg hd h1 h2
    go_wp2_with (go_at_call 161; refine (HCC.out _).mono ?_; rintro e w1 ⟨rfl, rfl⟩)
    go_round
    case measure => simp [intOf]; omega
    case rel => exact ⟨i + 1, by omega, by go_num, hd2⟩
  ·obtain rfl : i = s.size := by omega
   have hlt' : ¬ ((s.size : Int) < (s.size : Int)) := by omega
   have hv : nameB s = (decide (s.size ≤ 16) && (frsB s && allC namB s)) := rfl
   rw [allC_yes fun j h2 => hd.out.1 j (by omega) h2] at hv
   have hf : 0 < s.size → frsB s = true := fun h => by unfold frsB; rw [dif_pos h]; exact hd.out.2 h h
   have hf0 : ¬ 0 < s.size → frsB s = false := fun h => by unfold frsB; rw [dif_neg h]
   clear hd
   by_cases h0 : 0 < s.size
   ·rw [hf h0] at hv
    have e1 : decide ((1 : Int) ≤ (s.size : Int)) = true := decide_eq_true (by omega)
    have he : Hid (nameB s = decide ((s.size : Int) ≤ 16)) := Lib.hid (by rw [hv]; by_cases h : s.size ≤ 16 <;> simp [h] <;> omega)
    clear hv hf hf0 h0
    go_wp2_with fail
    go_ret
    exact ⟨by rw [he.out]; rfl, rfl⟩
   ·rw [hf0 h0] at hv
    have e1 : decide ((1 : Int) ≤ (s.size : Int)) = false := decide_eq_false (by omega)
    have he : Hid (nameB s = false) := Lib.hid (by rw [hv]; simp)
    clear hv hf hf0 h0
    go_wp2_with fail
    go_ret
    exact ⟨by rw [he.out]; rfl, rfl⟩
open Go.RowKit Go.Maps
theorem mvB_no1 {L : List Acc} {K : List Lnk} {c : List Acc} (h : vB c true = false) : mvB L K c = false := by unfold mvB; rw [h]; rfl
theorem mvB_no2 {L : List Acc} {K : List Lnk} {c : List Acc} (h : vB L false = false) : mvB L K c = false := by unfold mvB; rw [h]; simp
theorem mvB_no3 {L : List Acc} {K : List Lnk} {c : List Acc} (h : 400 < K.length) : mvB L K c = false := by unfold mvB; rw [decide_eq_false (show ¬ K.length ≤ 400 by omega)]; simp
theorem mvB_no4 {L : List Acc} {K : List Lnk} {c : List Acc} {k : Nat} (hk : k < K.length) (h : lnkB L c (K.getD k lnk0) = false) : mvB L K c = false := by
 unfold mvB; rw [allTo_no (p := fun i => lnkB L c (K.getD i lnk0)) hk h]; simp
theorem mvB_end {L : List Acc} {K : List Lnk} {c : List Acc} (h1 : vB c true = true) (h2 : vB L false = true) (h3 : K.length ≤ 400) (h4 : allTo (fun i => lnkB L c (K.getD i lnk0)) K.length = true) : mvB L K c = allTo (dfB K) K.length := by
 unfold mvB; rw [h1, h2, decide_eq_true h3, h4]; rfl
set_option maxRecDepth 20000 in
set_option maxHeartbeats 3200000 in
theorem cval9_any (nm cur : ByteArray) (A : Option Addr) (cp : Nat) (L : List Acc) (B : Option Addr) (d : Nat) (K : List Lnk) (jt : Bool) (C : Option Addr) (cc : Nat) (c : List Acc) (w : World) (hz : AccAt w A L) (hy : LnkAt w B K) (hx : AccAt w C c) (hl : L.length ≤ 1000) (hm : K.length ≤ 1000) (hc : c.length ≤ 1000) (hw : ∀ l ∈ K, WfL l) :
  Calls Tryz.prog 175 #[entV nm cur A L.length cp B K.length d jt, .slice C c.length cc] w fun e w' => e = .returned (.bool (mvB L K c)) ∧ Below w.heap.size w w' := by
 have hn := eb_new w 119 nm cur A L.length cp B K.length d jt
 have hB := below_alloc_new (w := w) (.cells #[.string nm, .string cur, .slice A L.length cp, .slice B K.length d, .bool jt] 119)
 have HEB := Lib.hid hn
 have HZ := Lib.hid (hz.up hB)
 have HY := Lib.hid (hy.up hB)
 have HX := Lib.hid (hx.up hB)
 have h1 := fun w h => cvalid8_any C cc c true w h hc
 have h2 := fun w h => cvalid8_any A cp L false w h hl
 have h3 := fun l w h h' => clnk_any l A C cp cc L c w h h' hl hc
 have h4 := fun w h => cdist_any B d K w h hm hw
 have N1 := mvB_no1 (L := L) (K := K) (c := c)
 have N2 := mvB_no2 (L := L) (K := K) (c := c)
 have N3 := mvB_no3 (L := L) (K := K) (c := c)
 have N4 := fun k => mvB_no4 (L := L) (K := K) (c := c) (k := k)
 have NE := mvB_end (L := L) (K := K) (c := c)
 obtain ⟨r, hr⟩ : ∃ r, mvB L K c = r := ⟨_, rfl⟩
 rw [hr] at N1 N2 N3 NE ⊢
 simp only [hr] at N4
 obtain ⟨P, hP⟩ : ∃ P : Nat → Bool, (fun i => lnkB L c (K.getD i lnk0)) = P := ⟨_, rfl⟩
 have hPk : ∀ k, lnkB L c (K.getD k lnk0) = P k := fun k => by rw [← hP]
 rw [hP] at NE
 simp only [hPk] at N4
 obtain ⟨q, hq⟩ : ∃ q, allTo (dfB K) K.length = q := ⟨_, rfl⟩
 rw [hq] at h4 NE
 obtain ⟨b1, hb1⟩ : ∃ b, vB c true = b := ⟨_, rfl⟩
 rw [hb1] at h1 N1 NE
 obtain ⟨b2, hb2⟩ : ∃ b, vB L false = b := ⟨_, rfl⟩
 rw [hb2] at h2 N2 NE
 obtain ⟨n, hn2⟩ : ∃ n, L.length = n := ⟨_, rfl⟩
 obtain ⟨k0, hk0⟩ : ∃ k0, c.length = k0 := ⟨_, rfl⟩
 obtain ⟨m, hm2⟩ : ∃ m, K.length = m := ⟨_, rfl⟩
 obtain ⟨s0, hs0⟩ : ∃ s0, w.heap.size = s0 := ⟨_, rfl⟩
 rw [hn2, hm2] at HEB HZ HY HX hB
 rw [hn2] at h2 h3
 rw [hk0] at h1 h3
 rw [hm2] at h4 N3 N4 NE hm
 rw [hn2, hm2, hk0]
 have HN1 := Lib.hid N1
 have HN2 := Lib.hid N2
 have HN3 := Lib.hid N3
 have HN4 := Lib.hid N4
 have HNE := Lib.hid NE
 have HP := Lib.hid hPk
 have HM := Lib.hid hm2
 have H1 := Lib.hid h1
 have H2 := Lib.hid h2
 have H3 := Lib.hid h3
 have H4 := Lib.hid h4
 have HS0 := Lib.hid hs0
 have HE0 := HEB
 rw [hs0] at hB HEB
 obtain ⟨c0, c1, c2, c3, c4, lt⟩ := HE0.out
 clear hn hz hy hx h1 h2 h3 h4 N1 N2 N3 N4 NE hr hP hPk hq hb1 hb2 hn2 hk0 hm2 hs0 hw hl hc HE0
 cases b1
 ·have HR := Lib.hid (HN1.out rfl)
  clear HN1 HN2 HN3 HN4 HNE
  go_enter Tryz.func175, Tryz.ntmps175
  go_wp2_with (go_at_call 143; first
   | ((with_reducible refine (H1.out _ HX.out).mono ?_); rintro e w1 ⟨rfl, hb⟩; replace hB := hB.trans (hb.mono (by have := hB.size; have := HS0.out; omega)); clear hb))
  go_ret
  exact ⟨by rw [HR.out]; rfl, by rw [HS0.out]; exact hB⟩
 have hv1 : ∀ (w1 : World), Below (w.alloc (.cells #[.string nm, .string cur, .slice A n cp, .slice B m d, .bool jt] 119)).heap.size (w.alloc (.cells #[.string nm, .string cur, .slice A n cp, .slice B m d, .bool jt] 119)) w1 → Hid (EB w1 s0 nm cur A n cp B m d jt) ∧ Hid (AccAt w1 A L) ∧ Hid (LnkAt w1 B K) ∧ Hid (AccAt w1 C c) ∧ Below s0 w w1 := fun w1 hb =>
  ⟨Lib.hid (HEB.out.up hb), Lib.hid (HZ.out.up hb), Lib.hid (HY.out.up hb), Lib.hid (HX.out.up hb), hB.trans (hb.mono (by have := hB.size; have := HS0.out; omega))⟩
 have HV1 := Lib.hid hv1
 clear hv1
 cases b2
 ·have HR := Lib.hid (HN2.out rfl)
  clear HN1 HN2 HN3 HN4 HNE
  go_enter Tryz.func175, Tryz.ntmps175
  go_wp2_with (go_at_call 143; first
   | ((with_reducible refine (H1.out _ HX.out).mono ?_); rintro e w1 ⟨rfl, hb⟩; obtain ⟨HEB, HZ, HY, HX, hB⟩ := HV1.out w1 hb; clear hb HV1 c0 c1 c2 c3 c4 lt; obtain ⟨c0, c1, c2, c3, c4, lt⟩ := HEB.out; rw [← HS0.out] at c0 c1 c2 c3 c4 lt)
   | ((with_reducible refine (H2.out _ HZ.out).mono ?_); rintro e w2 ⟨rfl, hb⟩; replace hB := hB.trans (hb.mono (by have := hB.size; have := HS0.out; omega)); clear hb))
  go_ret
  exact ⟨by rw [HR.out]; rfl, by rw [HS0.out]; exact hB⟩
 rcases Nat.lt_or_ge 400 m with hm4 | hm4
 ·have HR := Lib.hid (HN3.out hm4)
  have e4 : decide ((400 : Int) < (m : Int)) = true := decide_eq_true (by omega)
  clear HN1 HN2 HN3 HN4 HNE hm4
  go_enter Tryz.func175, Tryz.ntmps175
  go_wp2_with (go_at_call 143; first
   | ((with_reducible refine (H1.out _ HX.out).mono ?_); rintro e w1 ⟨rfl, hb⟩; obtain ⟨HEB, HZ, HY, HX, hB⟩ := HV1.out w1 hb; clear hb HV1 c0 c1 c2 c3 c4 lt; obtain ⟨c0, c1, c2, c3, c4, lt⟩ := HEB.out; rw [← HS0.out] at c0 c1 c2 c3 c4 lt)
   | ((with_reducible refine (H2.out _ HZ.out).mono ?_); rintro e w2 ⟨rfl, hb⟩; replace HEB := Lib.hid (HEB.out.up hb); replace hB := hB.trans (hb.mono (by have := hB.size; have := HS0.out; omega)); clear hb c0 c1 c2 c3 c4 lt; obtain ⟨c0, c1, c2, c3, c4, lt⟩ := HEB.out; rw [← HS0.out] at c0 c1 c2 c3 c4 lt))
  go_ret
  exact ⟨by rw [HR.out]; rfl, by rw [HS0.out]; exact hB⟩
 have e4 : decide ((400 : Int) < (m : Int)) = false := decide_eq_false (by omega)
 have HNE2 := Lib.hid (HNE.out rfl rfl hm4)
 clear HN1 HN2 HN3 HNE hm4
 go_enter Tryz.func175, Tryz.ntmps175
 go_wp2_with (go_at_call 143; first
  | ((with_reducible refine (H1.out _ HX.out).mono ?_); rintro e w1 ⟨rfl, hb⟩; obtain ⟨HEB, HZ, HY, HX, hB⟩ := HV1.out w1 hb; clear hb HV1 c0 c1 c2 c3 c4 lt; obtain ⟨c0, c1, c2, c3, c4, lt⟩ := HEB.out; rw [← HS0.out] at c0 c1 c2 c3 c4 lt)
  | ((with_reducible refine (H2.out _ HZ.out).mono ?_); rintro e w2 ⟨rfl, hb⟩; replace HEB := Lib.hid (HEB.out.up hb); replace HZ := Lib.hid (HZ.out.up hb); replace HY := Lib.hid (HY.out.up hb); replace HX := Lib.hid (HX.out.up hb); replace hB := hB.trans (hb.mono (by have := hB.size; have := HS0.out; omega)); clear hb c0 c1 c2 c3 c4 lt; obtain ⟨c0, c1, c2, c3, c4, lt⟩ := HEB.out; rw [← HS0.out] at c0 c1 c2 c3 c4 lt))
 clear c0 c1 c2 c3 c4 lt
 go_loopg [25] m (fun kx s25 wr => ∃ k : Nat, s25 = .int .i64 k ∧ k ≤ m ∧ m - k ≤ kx ∧ Hid (allTo P k = true) ∧ Hid (EB wr s0 nm cur A n cp B m d jt) ∧ Hid (AccAt wr A L) ∧ Hid (LnkAt wr B K) ∧ Hid (AccAt wr C c) ∧ Below s0 w wr)
 case atStart => exact ⟨0, rfl, by omega, by omega, Lib.hid rfl, HEB, HZ, HY, HX, hB⟩
 case round =>
  clear HEB HZ HY HX hB
  clear HEB HZ HY HX hB
  obtain ⟨k, rfl, hk, hkx, HA, HEB, HZ, HY, HX, hB⟩ := hrel
  have hsz : s0 ≤ wr.heap.size := by have := hB.size; have := HS0.out; omega
  by_cases hlt : k < m
  ·have hltz : (k : Int) < (m : Int) := by omega
   obtain ⟨b, off, rfl, hbw, hcs⟩ := HY.out (by rw [HM.out]; omega)
   obtain ⟨d0, d1, d2⟩ := hcs k (by rw [HM.out]; exact hlt)
   have hpk := HP.out k
   obtain ⟨x, hx⟩ : ∃ x, K.getD k lnk0 = x := ⟨_, rfl⟩
   rw [hx] at d0 d1 d2 hpk
   have hno := HN4.out k hlt
   have h3 := H3.out x
   rw [hpk] at h3
   have hW := below_alloc_new (w := wr) (.cells #[.int .i64 x.frm, .int .i64 x.tgt, .int .i64 x.since] 173)
   have HEB1 := Lib.hid (HEB.out.up hW)
   have HZ1 := Lib.hid (HZ.out.up hW)
   have HY1 := Lib.hid (HY.out.up hW)
   have HX1 := Lib.hid (HX.out.up hW)
   have hB1 : Below s0 w (wr.alloc (.cells #[.int .i64 x.frm, .int .i64 x.tgt, .int .i64 x.since] 173)) := hB.alloc hsz _
   have hs1 : s0 ≤ (wr.alloc (.cells #[.int .i64 x.frm, .int .i64 x.tgt, .int .i64 x.since] 173)).heap.size := by simp; omega
   obtain ⟨⟨v0, v1, v2⟩, vlt⟩ := lb_new wr 173 x
   simp only [Nat.zero_add] at v1 v2
   obtain ⟨c0, c1, c2, c3, c4, lt⟩ := HEB1.out
   rw [← HS0.out] at c0 c1 c2 c3 c4 lt
   have HS1 := Lib.hid hs1
   cases hpq : P k
   ·rw [hpq] at h3
    have HR := Lib.hid (hno hpq)
    have H3x := Lib.hid h3
    clear hpk hno h3 hpq hx hcs hW hs1
    go_wp2_with (go_at_call 191; (with_reducible refine (H3x.out _ HZ1.out HX1.out).mono ?_); rintro e w3 ⟨rfl, hb⟩; replace hB := hB1.trans (hb.mono HS1.out); clear hb)
    go_ret
    exact ⟨by rw [HR.out]; rfl, by rw [HS0.out]; exact hB⟩
   ·rw [hpq] at h3
    have HA2 : Hid (allTo P (k + 1) = true) := Lib.hid (by show (allTo P k && P k) = true; rw [HA.out, hpq]; rfl)
    have H3x := Lib.hid h3
    clear hpk hno h3 hpq hx hcs hW hs1
    go_wp2_with (go_at_call 191; (with_reducible refine (H3x.out _ HZ1.out HX1.out).mono ?_); rintro e w3 ⟨rfl, hb⟩; replace hB := hB1.trans (hb.mono HS1.out); replace HEB := Lib.hid (HEB1.out.up hb); replace HZ := Lib.hid (HZ1.out.up hb); replace HY := Lib.hid (HY1.out.up hb); replace HX := Lib.hid (HX1.out.up hb); clear hb)
    go_roundg (m - (k + 1))
    case measure => omega
    case rel => exact ⟨k + 1, by go_num, by omega, by omega, HA2, HEB, HZ, HY, HX, hB⟩
  ·obtain rfl : k = m := by omega
   have hltz : ¬ (k : Int) < (k : Int) := by omega
   have HR := Lib.hid (HNE2.out HA.out)
   obtain ⟨c0, c1, c2, c3, c4, lt⟩ := HEB.out
   rw [← HS0.out] at c0 c1 c2 c3 c4 lt
   go_wp2_with (go_at_call 192; (with_reducible refine (H4.out _ HY.out).mono ?_); rintro e w3 ⟨rfl, hb⟩; replace hB := hB.trans (hb.mono hsz); clear hb)
   go_ret
   exact ⟨by rw [HR.out]; rfl, by rw [HS0.out]; exact hB⟩
def enpB (L : List Acc) (R : List Int) (e : Ent) : Bool := nameB e.nm && (curB e.cur && (mvB e.L e.K L && allTo (fun i => opnP R (e.K.getD i lnk0).tgt) e.K.length))
set_option maxRecDepth 20000 in
set_option maxHeartbeats 3200000 in
theorem gent_any (g : Grp) (L : List Acc) (e : Ent) (w : World) (hz : AccAt w g.A L) (ln : L.length = g.n) (hl : g.n ≤ 1000) (he : EntK w e.A e.n e.L e.B e.m e.K) (hn : e.n ≤ 1000) (hm : e.m ≤ 1000) :
  Calls Tryz.prog 147 #[grpV g, eV e] w fun e' w' => e' = .returned (.bool (enpB L g.R e)) ∧ Below w.heap.size w w' := by
 have hB1 := below_alloc_new (w := w) (.cells #[.string g.cur, .int .i64 g.cy, .int .i64 g.cm, .int .i64 g.cp, .slice g.A g.n g.c, .int .i64 g.r0, .int .i64 g.r1, .int .i64 g.r2, .int .i64 g.r3, .int .i64 g.r4, .int .i64 g.r5, .int .i64 g.r6, .int .i64 g.r7, .int .i64 g.r8, .int .i64 g.r9, .int .i64 g.r10, .int .i64 g.r11, .int .i64 g.r12, .int .i64 g.r13, .int .i64 g.r14, .slice g.E g.m g.d] 29)
 have hB := below_new hB1 (.cells #[.string e.nm, .string e.cur, .slice e.A e.n e.c, .slice e.B e.m e.d, .bool e.jt] 119)
 have hG := (gb_new w 29 g).up (below_alloc_new (.cells #[.string e.nm, .string e.cur, .slice e.A e.n e.c, .slice e.B e.m e.d, .bool e.jt] 119))
 have hE := eb_new (w.alloc (.cells #[.string g.cur, .int .i64 g.cy, .int .i64 g.cm, .int .i64 g.cp, .slice g.A g.n g.c, .int .i64 g.r0, .int .i64 g.r1, .int .i64 g.r2, .int .i64 g.r3, .int .i64 g.r4, .int .i64 g.r5, .int .i64 g.r6, .int .i64 g.r7, .int .i64 g.r8, .int .i64 g.r9, .int .i64 g.r10, .int .i64 g.r11, .int .i64 g.r12, .int .i64 g.r13, .int .i64 g.r14, .slice g.E g.m g.d] 29)) 119 e.nm e.cur e.A e.n e.c e.B e.m e.d e.jt
 have e1 : (w.alloc (.cells #[.string g.cur, .int .i64 g.cy, .int .i64 g.cm, .int .i64 g.cp, .slice g.A g.n g.c, .int .i64 g.r0, .int .i64 g.r1, .int .i64 g.r2, .int .i64 g.r3, .int .i64 g.r4, .int .i64 g.r5, .int .i64 g.r6, .int .i64 g.r7, .int .i64 g.r8, .int .i64 g.r9, .int .i64 g.r10, .int .i64 g.r11, .int .i64 g.r12, .int .i64 g.r13, .int .i64 g.r14, .slice g.E g.m g.d] 29)).heap.size = w.heap.size + 1 := by simp
 rw [e1] at hE
 have h1 := fun w => gnam_any e.nm w
 have h2 := fun w => gcur_any e.cur w
 have h3 : ∀ w, EntK w e.A e.n e.L e.B e.m e.K → AccAt w g.A L → Calls Tryz.prog 175 #[eV e, .slice g.A g.n g.c] w fun e' w' => e' = .returned (.bool (mvB e.L e.K L)) ∧ Below w.heap.size w w' := fun w h h' => by
  have h9 := cval9_any e.nm e.cur e.A e.c e.L e.B e.d e.K e.jt g.A g.c L w h.hz h.hy h' (by have := h.ln; omega) (by have := h.lm; omega) (by omega) h.wl
  rw [h.ln, h.lm, ln] at h9
  exact h9
 have h4 := fun x w => gopen_any g x w
 have hv : enpB L g.R e = (nameB e.nm && (curB e.cur && (mvB e.L e.K L && allTo (fun i => opnP g.R (e.K.getD i lnk0).tgt) e.K.length))) := rfl
 rw [he.lm] at hv
 obtain ⟨X, hX⟩ : ∃ X : Value, X = grpV g := ⟨_, rfl⟩
 rw [← hX] at h4
 generalize enpB L g.R e = r at *
 generalize nameB e.nm = q1 at *
 generalize curB e.cur = q2 at *
 generalize mvB e.L e.K L = q3 at *
 obtain ⟨s0, hs0⟩ : ∃ s0, w.heap.size = s0 := ⟨_, rfl⟩
 have hs1 : s0 ≤ ((w.alloc (.cells #[.string g.cur, .int .i64 g.cy, .int .i64 g.cm, .int .i64 g.cp, .slice g.A g.n g.c, .int .i64 g.r0, .int .i64 g.r1, .int .i64 g.r2, .int .i64 g.r3, .int .i64 g.r4, .int .i64 g.r5, .int .i64 g.r6, .int .i64 g.r7, .int .i64 g.r8, .int .i64 g.r9, .int .i64 g.r10, .int .i64 g.r11, .int .i64 g.r12, .int .i64 g.r13, .int .i64 g.r14, .slice g.E g.m g.d] 29)).alloc (.cells #[.string e.nm, .string e.cur, .slice e.A e.n e.c, .slice e.B e.m e.d, .bool e.jt] 119)).heap.size := by simp; omega
 have hek : EntK ((w.alloc (.cells #[.string g.cur, .int .i64 g.cy, .int .i64 g.cm, .int .i64 g.cp, .slice g.A g.n g.c, .int .i64 g.r0, .int .i64 g.r1, .int .i64 g.r2, .int .i64 g.r3, .int .i64 g.r4, .int .i64 g.r5, .int .i64 g.r6, .int .i64 g.r7, .int .i64 g.r8, .int .i64 g.r9, .int .i64 g.r10, .int .i64 g.r11, .int .i64 g.r12, .int .i64 g.r13, .int .i64 g.r14, .slice g.E g.m g.d] 29)).alloc (.cells #[.string e.nm, .string e.cur, .slice e.A e.n e.c, .slice e.B e.m e.d, .bool e.jt] 119)) e.A e.n e.L e.B e.m e.K := he.up hB
 have hz2 := hz.up hB
 rw [hs0] at hB hG hE ⊢
 have HS0 := Lib.hid hs0
 have HG := Lib.hid hG
 have HX := Lib.hid hX
 have HNM := Lib.hid h1
 have HCU := Lib.hid h2
 have HMV := Lib.hid h3
 have HOP := Lib.hid h4
 have HS1 := Lib.hid hs1
 have HEK := Lib.hid hek
 have HZ := Lib.hid hz2
 have HY := Lib.hid he.hy
 have HLM := Lib.hid he.lm
 have HV := Lib.hid hv
 have d4 := hG.c4
 obtain ⟨c0, c1, c2, c3, c4, lt⟩ := hE
 clear hz hz2 ln hl he hn hB1 hG e1 h1 h2 h3 h4 hv hX hs1 hek
 cases q1
 ·have HR := Lib.hid (show r = false from HV.out)
  clear HV
  go_enter Tryz.func147, Tryz.ntmps147
  go_wp2_with (first | (go_at_call 174; refine (HNM.out _).mono ?_; rintro e1 w1 ⟨rfl, rfl⟩))
  go_ret
  exact ⟨by rw [HR.out]; rfl, hB⟩
 cases q2
 ·have HR := Lib.hid (show r = false from HV.out)
  clear HV
  go_enter Tryz.func147, Tryz.ntmps147
  go_wp2_with (first | (go_at_call 174; refine (HNM.out _).mono ?_; rintro e1 w1 ⟨rfl, rfl⟩) | (go_at_call 109; refine (HCU.out _).mono ?_; rintro e1 w1 ⟨rfl, rfl⟩))
  go_ret
  exact ⟨by rw [HR.out]; rfl, hB⟩
 have c3' := c3
 have lt2 := lt
 cases q3
 ·have HR := Lib.hid (show r = false from HV.out)
  clear HV
  go_enter Tryz.func147, Tryz.ntmps147
  go_wp2_with (first | (go_at_call 174; refine (HNM.out _).mono ?_; rintro e1 w1 ⟨rfl, rfl⟩) | (go_at_call 109; refine (HCU.out _).mono ?_; rintro e1 w1 ⟨rfl, rfl⟩) | (go_at_call 175; (with_reducible refine (HMV.out _ HEK.out HZ.out).mono ?_); rintro e1 w1 ⟨rfl, hb⟩; have hB2 := hB.trans (hb.mono HS1.out); have HG2 := Lib.hid (HG.out.up hb); clear hb hB HG c0 c1 c2 c3 c4 lt d4))
  go_ret
  exact ⟨by rw [HR.out]; rfl, hB2⟩
 have HE := Lib.hid (EB.mk c0 c1 c2 c3 c4 lt)
 obtain ⟨P, hP⟩ : ∃ P : Nat → Bool, (fun i => opnP g.R (e.K.getD i lnk0).tgt) = P := ⟨_, rfl⟩
 have hv2 := HV.out
 rw [hP] at hv2
 have HV2 := Lib.hid (show r = allTo P e.m from hv2)
 have HP := Lib.hid (fun i => show opnP g.R (e.K.getD i lnk0).tgt = P i from by rw [← hP])
 clear HV hP hv2 c3' lt2
 go_enter Tryz.func147, Tryz.ntmps147
 go_wp2_with (first | (go_at_call 174; refine (HNM.out _).mono ?_; rintro e1 w1 ⟨rfl, rfl⟩) | (go_at_call 109; refine (HCU.out _).mono ?_; rintro e1 w1 ⟨rfl, rfl⟩) | (go_at_call 175; (with_reducible refine (HMV.out _ HEK.out HZ.out).mono ?_); rintro e1 w1 ⟨rfl, hb⟩; have hB2 := hB.trans (hb.mono HS1.out); have HG2 := Lib.hid (HG.out.up hb); have HE2 := HE.out.up hb; clear hb hB HG HE c0 c1 c2 c3 c4 lt d4; obtain ⟨c0, c1, c2, c3, c4, lt⟩ := HE2))
 clear hs0 HNM HCU HMV HEK HZ HS1 c0 c1 c2 c3 c4 lt
 obtain ⟨n, hn2⟩ : ∃ n, e.m = n := ⟨_, rfl⟩
 obtain ⟨B, hB9⟩ : ∃ B, e.B = B := ⟨_, rfl⟩
 rw [hn2] at hm HLM HV2 ⊢
 rw [hB9] at HY ⊢
 clear hn2 hB9
 go_loopg [27] n (fun kx s27 wr => ∃ k : Nat, s27 = .int .i64 k ∧ k ≤ n ∧ n - k ≤ kx ∧ Hid (allTo P k = true) ∧ Hid (GB wr s0 g) ∧ Below s0 w wr)
 case atStart => exact ⟨0, rfl, by omega, by omega, Lib.hid rfl, HG2, hB2⟩
 case round =>
  clear hB2 HG2
  obtain ⟨k, rfl, hk, hkx, HA, HG, hB⟩ := hrel
  by_cases hlt : k < n
  ·have hltz : (k : Int) < (n : Int) := by omega
   have hsz : s0 ≤ wr.heap.size := by have := HG.out.lt; omega
   obtain ⟨b, off, rfl, hbw, hcs⟩ := HY.out (by rw [HLM.out]; omega)
   obtain ⟨d0, d1, d2⟩ := (hcs k (by rw [HLM.out]; exact hlt)).up hB (by have := HS0.out; omega)
   have hp := HP.out k
   have hno : P k = false → r = false := fun h => by rw [HV2.out]; exact allTo_no hlt h
   have hnx : P k = true → Hid (allTo P (k + 1) = true) := fun h => Lib.hid (by show (allTo P k && P k) = true; rw [HA.out, h]; rfl)
   obtain ⟨x, hx⟩ : ∃ x, e.K.getD k lnk0 = x := ⟨_, rfl⟩
   rw [hx] at d0 d1 d2 hp
   have hox := fun w => HOP.out x.tgt w
   rw [hp] at hox
   generalize P k = q at *
   have hl1 := lb_new wr 173 x
   have HB1 : Hid (Below s0 w (wr.alloc (.cells #[.int .i64 x.frm, .int .i64 x.tgt, .int .i64 x.since] 173))) := Lib.hid (hB.alloc hsz _)
   have HSZ1 : Hid (s0 ≤ (wr.alloc (.cells #[.int .i64 x.frm, .int .i64 x.tgt, .int .i64 x.since] 173)).heap.size) := Lib.hid (by simp; omega)
   have HG1 := Lib.hid (HG.out.up (below_alloc_new (.cells #[.int .i64 x.frm, .int .i64 x.tgt, .int .i64 x.since] 173)))
   obtain ⟨⟨v0, v1, v2⟩, vlt⟩ := hl1
   simp only [Nat.zero_add] at v1 v2
   have HOx := Lib.hid hox
   clear hcs hx hp hox HA HG hB
   cases q
   ·have HR := Lib.hid (hno rfl)
    clear hno hnx
    go_wp2_with (first
     | (refine wpList_load_is rfl 29 _ rfl (.pointer (some ⟨s0, 0, none⟩)) rfl X (gb_lV HG1.out HX.out) ?_)
     | (go_at_call 176; refine (HOx.out _).mono ?_; rintro e1 w3 ⟨rfl, hb⟩; have hB3 := HB1.out.trans (hb.mono HSZ1.out); have HG3 := Lib.hid (HG1.out.up hb); clear hb HG1 HB1 HSZ1 v0 v1 v2 vlt))
    go_ret
    exact ⟨by rw [HR.out]; rfl, hB3⟩
   ·have HA2 := hnx rfl
    clear hno hnx
    go_wp2_with (first
     | (refine wpList_load_is rfl 29 _ rfl (.pointer (some ⟨s0, 0, none⟩)) rfl X (gb_lV HG1.out HX.out) ?_)
     | (go_at_call 176; refine (HOx.out _).mono ?_; rintro e1 w3 ⟨rfl, hb⟩; have hB3 := HB1.out.trans (hb.mono HSZ1.out); have HG3 := Lib.hid (HG1.out.up hb); clear hb HG1 HB1 HSZ1 v0 v1 v2 vlt))
    go_roundg (n - (k + 1))
    case measure => omega
    case rel => exact ⟨k + 1, by go_num, by omega, by omega, HA2, HG3, hB3⟩
  ·obtain rfl : k = n := by omega
   have hltz : ¬ (k : Int) < (k : Int) := by omega
   have HR : Hid (r = true) := Lib.hid (by rw [HV2.out]; exact HA.out)
   go_wp2_with fail
   go_ret
   exact ⟨by rw [HR.out]; rfl, hB⟩
open Go.RowKit Go.Maps Go.Sort Go.Shelf
theorem ts9_keyed : Keyed Tryz.prog 9 := string_keyed Tryz.underlying9
abbrev litS (s : ByteArray) : Lit := .string s.data.toList
theorem litS_inj {a b : ByteArray} (h : litS a = litS b) : a = b := by
 injection h with h
 exact ByteArray.ext (Array.toList_inj.1 h)
theorem key_str {s : ByteArray} (hs : s.size ≤ maxLen) : keyOf Tryz.prog 9 (.string s) = some (litS s) := WideMaps.keyOf_string_mk Tryz.underlying9 hs
def SetS (w : World) (b m : Nat) (S : ByteArray → Bool) : Prop := ∃ D : DataW Value, w.ownsMap Tryz.prog 9 heldE b m D ∧ ∀ x, Maps.has D (litS x) = S x ∧ ∀ z, D.atKey (litS x) z = cond (S x) (.held (.bool true)) z
theorem SetS.lt {w : World} {b m : Nat} {S : ByteArray → Bool} (h : SetS w b m S) : b < w.heap.size := by
 obtain ⟨D, h1, _⟩ := h
 exact h1.lt
theorem SetS.blk {w w' : World} {b m : Nat} {S : ByteArray → Bool} (h : SetS w b m S) (hk : w'.heap[b]? = w.heap[b]?) : SetS w' b m S := by
 obtain ⟨D, ⟨es, clock, hb, rest⟩, h2⟩ := h
 exact ⟨D, ⟨es, clock, hk.trans hb, rest⟩, h2⟩
theorem SetS.up {w w' : World} {b m : Nat} {S : ByteArray → Bool} (h : SetS w b m S) (hb : Below w.heap.size w w') : SetS w' b m S := h.blk (hb.block b h.lt)
theorem SetS.made (w : World) : SetS (w.alloc (.map #[] 0)) w.heap.size 0 (fun _ => false) :=
 ⟨.map [], World.ownsMap_made _ _ _ _, fun _ => ⟨rfl, fun _ => rfl⟩⟩
theorem SetS.put {w' : World} {b n : Nat} {D : DataW Value} {S : ByteArray → Bool} {c : ByteArray} (h2 : IsMap D) (h3 : ∀ x, Maps.has D (litS x) = S x ∧ ∀ z, D.atKey (litS x) z = cond (S x) (.held (.bool true)) z) (h4 : w'.ownsMap Tryz.prog 9 heldE b n (D.put (litS c) (.held (.bool true)))) :
  SetS w' b n (fun x => decide (x = c) || S x) := by
 have hkl : ∀ z : ByteArray, WideAt.IsKeyLit (litS z) := fun z => by simp [WideAt.IsKeyLit]
 refine ⟨_, h4, fun x => ?_⟩
 dsimp only
 by_cases hxc : x = c
 ·subst hxc
  rw [has_put_same h2 (hkl _), decide_eq_true rfl]
  exact ⟨rfl, fun z => by rw [atKey_put_same h2 (hkl _)]; rfl⟩
 ·have hne : litS x ≠ litS c := fun e => hxc (litS_inj e)
  rw [has_put_other hne, decide_eq_false hxc]
  refine ⟨(h3 x).1, fun z => ?_⟩
  rw [atKey_put_other hne]
  exact (h3 x).2 z
theorem wpList_sets_look {w : World} {ops : Array Oper} {rest : List Oper} {o : Oper} {a : Act} {Q : Exit → Act → World → Prop} (hg : o.guard = none) (m x : Operand) (hop : o.op = Op.lookup 192 m x false)
  (b n : Nat) (S : ByteArray → Bool) (hm : a.eval m = .map (some b)) (hs : SetS w b n S) (c : ByteArray) (hx : a.eval x = .string c) (hw : c.size ≤ maxLen)
  (hK : wpList Tryz.prog ops Q rest (a.put o.dst (.bool (S c))) w) : wpList Tryz.prog ops Q (o :: rest) a w := by
 obtain ⟨D, h1, h3⟩ := hs
 refine wpList_plain hg fun K' hK' => ?_
 have hz : ∀ w : World, (zeroValue 4).run Tryz.prog w = .ok (.bool false) w := fun w => by kernel_rfl
 obtain ⟨v, ps, hrun, hv⟩ := h1.lookup ts9_keyed Tryz.underlying192 (hz w) (zd := .held (.bool false)) (zp := []) rfl (key_str hw)
 have he : v = .bool (S c) := by
  rw [(h3 c).2] at hv
  simp only [heldE, Option.some.injEq, Prod.mk.injEq] at hv
  have h4 := hv.1
  cases hf : S c
  ·rw [hf] at h4; injection h4
  ·rw [hf] at h4; injection h4
 unfold Oper.wp
 simp [execOp, hop, hm, hx, hrun, Result.andThen]
 exact hK' _ _ (he ▸ hK)
theorem wpList_sets_lookq {w : World} {ops : Array Oper} {rest : List Oper} {o : Oper} {a : Act} {Q : Exit → Act → World → Prop} (hg : o.guard = none) (m x : Operand) (hop : o.op = Op.lookup 192 m x false)
  (b n : Nat) (S : ByteArray → Bool) (hm : a.eval m = .map (some b)) (hs : SetS w b n S) (c : ByteArray) (hx : a.eval x = .string c) (hw : c.size ≤ maxLen) (q : Bool) (hq : S c = q)
  (hK : wpList Tryz.prog ops Q rest (a.put o.dst (.bool q)) w) : wpList Tryz.prog ops Q (o :: rest) a w := by
 subst hq
 exact wpList_sets_look hg m x hop b n S hm hs c hx hw hK
theorem wpList_sets_put {w : World} {ops : Array Oper} {rest : List Oper} {o : Oper} {a : Act} {Q : Exit → Act → World → Prop} (hg : o.guard = none) (m x y : Operand) (hop : o.op = Op.mapUpdate 192 m x y)
  (b n : Nat) (S : ByteArray → Bool) (hm : a.eval m = .map (some b)) (hs : SetS w b n S) (c : ByteArray) (hx : a.eval x = .string c) (hy : a.eval y = .bool true) (hw : c.size ≤ maxLen) (hn : n ≤ 1000000)
  (hK : ∀ w', Hid (SetS w' b (n + 1) (fun x => decide (x = c) || S x)) → Hid (w.grownBy w' (some b)) → wpList Tryz.prog ops Q rest (a.put o.dst undef) w') : wpList Tryz.prog ops Q (o :: rest) a w := by
 obtain ⟨D, h1, h3⟩ := hs
 have h2 := h1.isMap
 refine wpList_mapUpdate_own w hg m x y 192 hop 9 4 ts9_keyed Tryz.underlying192 heldE b n D hm h1 (by unfold maxLen; omega) _ _ _ hx hy (key_str hw) (.held (.bool true)) [] rfl ?_
 intro w' h4 h5
 exact hK w' (Lib.hid (SetS.put h2 h3 h4)) (Lib.hid h5)
theorem wp_load_is {P : Program} {o : Oper} {a : Act} {w : World} {K : Act → World → Prop} {Q : Exit → Act → World → Prop} (ty : TypeId) (x : Operand) (hop : o.op = .load ty x) (p : Value) (hx : a.eval x = p) (V : Value)
  (hl : (Instr.loadAt ty p).run P w = .ok V w) (h : K (a.put o.dst V) w) : o.wp P a w K Q := by
 unfold Oper.wp execOp
 simp only [hop, hx, Sem.run_bind, hl, Sem.run_pure, Result.andThen_ok]
 exact h
theorem yieldsIf_load_is {P : Program} {ops : Array Oper} {S : World → Prop} {op : Oper} {a : Act} (hw : Region.wanted op (yielded ops a.tmps) = true) (ty : TypeId) (x : Operand) (ho : op.op = .load ty x) (p : Value) (hx : a.eval x = p) (V : Value)
  (hS : ∀ w, S w → (Instr.loadAt ty p).run P w = .ok V w) : YieldsIf P ops S op V a :=
 .inl ⟨hw, fun w hw' => by
  unfold execOp
  simp only [ho, hx, Sem.run_bind, hS w hw', Sem.run_pure, Result.andThen_ok]⟩
def rowP (L : List Acc) (R : List Int) (G : List Ent) (i : Nat) : Bool := dsN G i && enpB L R (G.getD i ent0)
def ensP (L : List Acc) (R : List Int) (G : List Ent) : Bool := decide (1 ≤ G.length) && (decide (G.length ≤ 12) && (!(G.getD 0 ent0).jt && allTo (rowP L R G) G.length))
def SeenN (G : List Ent) (k : Nat) (S : ByteArray → Bool) : Prop := ∀ x, S x = true ↔ ∃ i, i < k ∧ (G.getD i ent0).nm = x
theorem SeenN.start {G : List Ent} : SeenN G 0 (fun _ => false) := fun x => by simp
theorem SeenN.now {G : List Ent} {k : Nat} {S : ByteArray → Bool} (h : SeenN G k S) : dsN G k = !S (G.getD k ent0).nm := by
 rw [Bool.eq_iff_iff, dsN_is, Bool.not_eq_true']
 constructor
 ·intro h1
  cases hS : S (G.getD k ent0).nm with
  | false => rfl
  | true =>
   obtain ⟨i, hi, e⟩ := (h _).1 hS
   exact absurd e (h1 i hi)
 ·intro h1 i hi e
  rw [(h _).2 ⟨i, hi, e⟩] at h1
  cases h1
theorem SeenN.step {G : List Ent} {k : Nat} {S : ByteArray → Bool} {c : ByteArray} (h : SeenN G k S) (hc : (G.getD k ent0).nm = c) : SeenN G (k + 1) (fun x => decide (x = c) || S x) := fun x => by
 rw [Bool.or_eq_true, decide_eq_true_eq, h x]
 constructor
 ·rintro (rfl | ⟨i, hi, e⟩)
  ·exact ⟨k, by omega, hc⟩
  ·exact ⟨i, by omega, e⟩
 ·rintro ⟨i, hi, e⟩
  rcases Nat.lt_or_ge i k with h1 | h1
  ·exact .inr ⟨i, h1, e⟩
  ·obtain rfl : i = k := by omega
   exact .inl (by rw [← e, hc])
set_option maxRecDepth 20000 in
set_option maxHeartbeats 3200000 in
theorem gents_any (g : Grp) (L : List Acc) (G : List Ent) (w : World) (hk : GrK w g L G) (hs : Sm g G) (hw : GrW g L G) :
  Calls Tryz.prog 113 #[grpV g] w fun e' w' => e' = .returned (.bool (ensP L g.R G)) ∧ Below w.heap.size w w' := by
 have hB := below_alloc_new (w := w) (.cells #[.string g.cur, .int .i64 g.cy, .int .i64 g.cm, .int .i64 g.cp, .slice g.A g.n g.c, .int .i64 g.r0, .int .i64 g.r1, .int .i64 g.r2, .int .i64 g.r3, .int .i64 g.r4, .int .i64 g.r5, .int .i64 g.r6, .int .i64 g.r7, .int .i64 g.r8, .int .i64 g.r9, .int .i64 g.r10, .int .i64 g.r11, .int .i64 g.r12, .int .i64 g.r13, .int .i64 g.r14, .slice g.E g.m g.d] 29)
 have hG := gb_new w 29 g
 have hv : ensP L g.R G = (decide (1 ≤ G.length) && (decide (G.length ≤ 12) && (!(G.getD 0 ent0).jt && allTo (rowP L g.R G) G.length))) := rfl
 rw [hk.lg] at hv
 have hrow : ∀ k, rowP L g.R G k = (dsN G k && enpB L g.R (G.getD k ent0)) := fun _ => rfl
 have h1 : ∀ k, k < g.m → ∀ w, AccAt w g.A L → EntsK w G → Calls Tryz.prog 147 #[grpV g, eV (G.getD k ent0)] w fun e' w' => e' = .returned (.bool (enpB L g.R (G.getD k ent0))) ∧ Below w.heap.size w w' := fun k hk2 w hz he => by
  have hm := getD_mem_acc (d := ent0) (L := G) (i := k) (by rw [hk.lg]; exact hk2)
  have := hs.e _ hm
  have := hs.n
  exact gent_any g L _ w hz hk.ln (by omega) (he _ hm) (by omega) (by omega)
 have hnm : ∀ k, k < g.m → (G.getD k ent0).nm.size ≤ maxLen := fun k hk2 => (hw.txt _ (getD_mem_acc (by rw [hk.lg]; exact hk2))).1
 have hat := fun k (hk2 : k < g.m) => ent_at hk.he (k := k) (by rw [hk.lg]; exact hk2)
 obtain ⟨X, hX⟩ : ∃ X : Value, X = grpV g := ⟨_, rfl⟩
 rw [← hX] at h1
 generalize ensP L g.R G = r at *
 obtain ⟨P, hP⟩ : ∃ P : Nat → Bool, rowP L g.R G = P := ⟨_, rfl⟩
 rw [hP] at hv
 simp only [hP] at hrow
 obtain ⟨s0, hs0⟩ : ∃ s0, w.heap.size = s0 := ⟨_, rfl⟩
 have hm14 := hs.m
 rw [hs0] at hB hG ⊢
 have HS0 := Lib.hid hs0
 have HG := Lib.hid hG
 have HX := Lib.hid hX
 have HV := Lib.hid hv
 have HRow := Lib.hid hrow
 have H1 := Lib.hid h1
 have HNM := Lib.hid hnm
 have HAt := Lib.hid hat
 have HZ := Lib.hid hk.hz
 have HEK := Lib.hid hk.hk
 have c20 := hG.c20
 clear hk hs hw hv hrow h1 hnm hat hX hP hG
 by_cases k0 : g.m = 0
 ·have e0 : ((g.m : Int) == 0) = true := by rw [k0]; rfl
  have HR : Hid (r = false) := Lib.hid (by rw [HV.out, decide_eq_false (by omega)]; rfl)
  clear k0
  go_enter Tryz.func113, Tryz.ntmps113
  go_wp2_with fail
  go_ret
  exact ⟨by rw [HR.out]; rfl, hB⟩
 have e0 : ((g.m : Int) == 0) = false := beq_eq_false_iff_ne.2 (by omega)
 clear c20 HG hB
 obtain ⟨b, off, eE, hbw, hc0⟩ := HAt.out 0 (by omega)
 have hB := below_alloc_new (w := w) (.cells #[.string g.cur, .int .i64 g.cy, .int .i64 g.cm, .int .i64 g.cp, .slice g.A g.n g.c, .int .i64 g.r0, .int .i64 g.r1, .int .i64 g.r2, .int .i64 g.r3, .int .i64 g.r4, .int .i64 g.r5, .int .i64 g.r6, .int .i64 g.r7, .int .i64 g.r8, .int .i64 g.r9, .int .i64 g.r10, .int .i64 g.r11, .int .i64 g.r12, .int .i64 g.r13, .int .i64 g.r14, .slice g.E g.m g.d] 29)
 have hG := gb_new w 29 g
 have d4 := (hc0.up (below_alloc_new (.cells #[.string g.cur, .int .i64 g.cy, .int .i64 g.cm, .int .i64 g.cp, .slice g.A g.n g.c, .int .i64 g.r0, .int .i64 g.r1, .int .i64 g.r2, .int .i64 g.r3, .int .i64 g.r4, .int .i64 g.r5, .int .i64 g.r6, .int .i64 g.r7, .int .i64 g.r8, .int .i64 g.r9, .int .i64 g.r10, .int .i64 g.r11, .int .i64 g.r12, .int .i64 g.r13, .int .i64 g.r14, .slice g.E g.m g.d] 29)) hbw).c4
 have hMB := SetS.made (w.alloc (.cells #[.string g.cur, .int .i64 g.cy, .int .i64 g.cm, .int .i64 g.cp, .slice g.A g.n g.c, .int .i64 g.r0, .int .i64 g.r1, .int .i64 g.r2, .int .i64 g.r3, .int .i64 g.r4, .int .i64 g.r5, .int .i64 g.r6, .int .i64 g.r7, .int .i64 g.r8, .int .i64 g.r9, .int .i64 g.r10, .int .i64 g.r11, .int .i64 g.r12, .int .i64 g.r13, .int .i64 g.r14, .slice g.E g.m g.d] 29))
 have e9 : (w.alloc (.cells #[.string g.cur, .int .i64 g.cy, .int .i64 g.cm, .int .i64 g.cp, .slice g.A g.n g.c, .int .i64 g.r0, .int .i64 g.r1, .int .i64 g.r2, .int .i64 g.r3, .int .i64 g.r4, .int .i64 g.r5, .int .i64 g.r6, .int .i64 g.r7, .int .i64 g.r8, .int .i64 g.r9, .int .i64 g.r10, .int .i64 g.r11, .int .i64 g.r12, .int .i64 g.r13, .int .i64 g.r14, .slice g.E g.m g.d] 29)).heap.size = s0 + 1 := by simp; omega
 have hG1 := hG.up (below_alloc_new (.map #[] 0))
 have hB1 : Below s0 w ((w.alloc (.cells #[.string g.cur, .int .i64 g.cy, .int .i64 g.cm, .int .i64 g.cp, .slice g.A g.n g.c, .int .i64 g.r0, .int .i64 g.r1, .int .i64 g.r2, .int .i64 g.r3, .int .i64 g.r4, .int .i64 g.r5, .int .i64 g.r6, .int .i64 g.r7, .int .i64 g.r8, .int .i64 g.r9, .int .i64 g.r10, .int .i64 g.r11, .int .i64 g.r12, .int .i64 g.r13, .int .i64 g.r14, .slice g.E g.m g.d] 29)).alloc (.map #[] 0)) := by rw [hs0] at hB; exact hB.alloc (by omega) _
 rw [hs0] at hB hG hG1
 rw [eE] at hB hG hG1 d4 hMB hB1 e9
 rw [e9] at hMB
 simp only [Nat.zero_mul, Nat.add_zero] at d4
 have c20 := hG.c20
 have c20' := hG1.c20
 rw [eE] at c20 c20'
 have hv2 := HV.out
 rw [decide_eq_true (show 1 ≤ g.m by omega), Bool.true_and] at hv2
 rcases Nat.lt_or_ge 12 g.m with k1 | k1
 ·have e1 : decide ((12 : Int) < (g.m : Int)) = true := decide_eq_true (by omega)
  have HR : Hid (r = false) := Lib.hid (by rw [hv2, decide_eq_false (by omega)]; rfl)
  clear k0 k1 hv2 hMB hG hG1 hbw hc0
  go_enter Tryz.func113, Tryz.ntmps113
  go_wp2_with fail
  go_ret
  exact ⟨by rw [HR.out]; rfl, hB⟩
 have e1 : decide ((12 : Int) < (g.m : Int)) = false := decide_eq_false (by omega)
 rw [decide_eq_true k1, Bool.true_and] at hv2
 have h0z : (0 : Int) < (g.m : Int) := by omega
 generalize (G.getD 0 ent0).jt = jt at *
 cases jt
 case true =>
  have HR : Hid (r = false) := Lib.hid (by rw [hv2]; rfl)
  clear k0 k1 hv2 hbw hc0 hMB hG hG1
  go_enter Tryz.func113, Tryz.ntmps113
  go_wp2_with fail
  go_ret
  exact ⟨by rw [HR.out]; rfl, hB⟩
 have HV2 := Lib.hid (show r = allTo P g.m from hv2)
 have HMB := Lib.hid hMB
 have HG1 := Lib.hid hG1
 have hmm := @run_makeMap Tryz.prog
 clear k0 k1 hv2 hbw hc0 HV hG hG1 hMB e9 hB
 go_enter Tryz.func113, Tryz.ntmps113
 go_wp2_with fail
 have hat2 : ∀ k, k < g.m → E5 w b (off + k * 5) (G.getD k ent0) ∧ b < w.heap.size := fun k hk => by
  obtain ⟨b', off', e', hb', hc'⟩ := HAt.out k hk
  rw [eE] at e'
  cases e'
  exact ⟨hc', hb'⟩
 have HAt2 := Lib.hid hat2
 clear HAt hat2 hs0 eE d4 c20 c20'
 go_loopg [27] g.m (fun kx s27 wr => ∃ (k m : Nat) (S : ByteArray → Bool), s27 = .int .i64 k ∧ k ≤ g.m ∧ g.m - k ≤ kx ∧ m ≤ k ∧ Hid (allTo P k = true) ∧ Hid (SeenN G k S) ∧ Hid (SetS wr (s0 + 1) m S) ∧ Hid (GB wr s0 g) ∧ Below s0 w wr)
 case atStart => exact ⟨0, 0, _, rfl, by omega, by omega, by omega, Lib.hid rfl, Lib.hid SeenN.start, HMB, HG1, hB1⟩
 case round =>
  clear hB1 HMB HG1
  obtain ⟨k, m, S, rfl, hk, hkx, hmk, HA, HSN, HM, HG, hB⟩ := hrel
  by_cases hlt : k < g.m
  ·have hltz : (k : Int) < (g.m : Int) := by omega
   have hsz : s0 ≤ wr.heap.size := by have := HG.out.lt; omega
   obtain ⟨hc5, hbw⟩ := HAt2.out k hlt
   obtain ⟨d0, d1, d2, d3, d4⟩ := hc5.up hB (by have := HS0.out; omega)
   have hnx0 := HNM.out k hlt
   have hno : P k = false → r = false := fun h => by rw [HV2.out]; exact allTo_no hlt h
   have hnx : P k = true → Hid (allTo P (k + 1) = true) := fun h => Lib.hid (by show (allTo P k && P k) = true; rw [HA.out, h]; rfl)
   have hrow := HRow.out k
   have hnow := HSN.out.now
   have hstep := fun c hc => HSN.out.step (c := c) hc
   have h1x := fun w h h' => H1.out k hlt w h h'
   obtain ⟨x, hx⟩ : ∃ x, G.getD k ent0 = x := ⟨_, rfl⟩
   rw [hx] at d0 d1 d2 d3 d4 hnx0 hrow hnow hstep h1x
   have HST := Lib.hid (hstep x.nm rfl)
   obtain ⟨q1, hq1⟩ : ∃ q, S x.nm = q := ⟨_, rfl⟩
   rw [hq1] at hnow
   rw [hnow] at hrow
   generalize enpB L g.R x = q2 at *
   generalize P k = pk at *
   have HQ := Lib.hid hq1
   have HNx := Lib.hid hnx0
   have H1x := Lib.hid h1x
   have heb := eb_new wr 119 x.nm x.cur x.A x.n x.c x.B x.m x.d x.jt
   have HEB := Lib.hid heb
   obtain ⟨z0, z1, z2, z3, z4, zlt⟩ := heb
   have HB1 : Hid (Below s0 w (wr.alloc (.cells #[.string x.nm, .string x.cur, .slice x.A x.n x.c, .slice x.B x.m x.d, .bool x.jt] 119))) := Lib.hid (hB.alloc hsz _)
   have HSZ1 : Hid (s0 ≤ (wr.alloc (.cells #[.string x.nm, .string x.cur, .slice x.A x.n x.c, .slice x.B x.m x.d, .bool x.jt] 119)).heap.size) := Lib.hid (by simp; omega)
   have HG1 := Lib.hid (HG.out.up (below_alloc_new (.cells #[.string x.nm, .string x.cur, .slice x.A x.n x.c, .slice x.B x.m x.d, .bool x.jt] 119)))
   have HM1 := Lib.hid (HM.out.up (below_alloc_new (.cells #[.string x.nm, .string x.cur, .slice x.A x.n x.c, .slice x.B x.m x.d, .bool x.jt] 119)))
   have HZ1 : Hid (AccAt (wr.alloc (.cells #[.string x.nm, .string x.cur, .slice x.A x.n x.c, .slice x.B x.m x.d, .bool x.jt] 119)) g.A L) := Lib.hid (HZ.out.up (by rw [HS0.out]; exact HB1.out))
   have HE1 : Hid (EntsK (wr.alloc (.cells #[.string x.nm, .string x.cur, .slice x.A x.n x.c, .slice x.B x.m x.d, .bool x.jt] 119)) G) := Lib.hid (HEK.out.up (by rw [HS0.out]; exact HB1.out))
   clear hx hq1 hnx0 h1x hstep hnow hc5 HA HG HM HSN hB
   cases q1
   ·cases q2
    ·have HR := Lib.hid (hno (by rw [hrow]; rfl))
     clear hno hnx hrow
     go_wp2_with (first | (refine wpList_sets_lookq rfl _ _ rfl (s0 + 1) m S rfl HM1.out x.nm rfl HNx.out _ HQ.out ?_) | (refine wpList_load_is rfl 29 _ rfl (.pointer (some ⟨s0, 0, none⟩)) rfl X (gb_lV HG1.out HX.out) ?_) | (refine wpList_load_if rfl 29 _ rfl (.pointer (some ⟨s0, 0, none⟩)) rfl X (gb_lV HG1.out HX.out) ?_) | (refine wp_load_is 29 _ rfl (.pointer (some ⟨s0, 0, none⟩)) rfl X (gb_lV HG1.out HX.out) ?_) | (go_at_call 147; (with_reducible refine (H1x.out _ HZ1.out HE1.out).mono ?_); rintro e1 w3 ⟨rfl, hb⟩; have hB3 := HB1.out.trans (hb.mono HSZ1.out); have hsz3 : s0 ≤ w3.heap.size := Nat.le_trans HSZ1.out hb.size; have HG3 := Lib.hid (HG1.out.up hb); have HM3 := Lib.hid (HM1.out.up hb); have HEB3 := HEB.out.up hb; clear hb HG1 HM1 HB1 HSZ1 z0 z1 z2 z3 z4 zlt HEB d0 d1 d2 d3 d4; obtain ⟨z0, z1, z2, z3, z4, zlt⟩ := HEB3))
     go_ret
     exact ⟨by rw [HR.out]; rfl, hB3⟩
    ·have HA2 := hnx (by rw [hrow]; rfl)
     clear hno hnx hrow
     go_wp2_with (first | (refine wpList_sets_lookq rfl _ _ rfl (s0 + 1) m S rfl HM1.out x.nm rfl HNx.out _ HQ.out ?_) | (refine wpList_load_is rfl 29 _ rfl (.pointer (some ⟨s0, 0, none⟩)) rfl X (gb_lV HG1.out HX.out) ?_) | (refine wpList_load_if rfl 29 _ rfl (.pointer (some ⟨s0, 0, none⟩)) rfl X (gb_lV HG1.out HX.out) ?_) | (refine wp_load_is 29 _ rfl (.pointer (some ⟨s0, 0, none⟩)) rfl X (gb_lV HG1.out HX.out) ?_) | (go_at_call 147; (with_reducible refine (H1x.out _ HZ1.out HE1.out).mono ?_); rintro e1 w3 ⟨rfl, hb⟩; have hB3 := HB1.out.trans (hb.mono HSZ1.out); have hsz3 : s0 ≤ w3.heap.size := Nat.le_trans HSZ1.out hb.size; have HG3 := Lib.hid (HG1.out.up hb); have HM3 := Lib.hid (HM1.out.up hb); have HEB3 := HEB.out.up hb; clear hb HG1 HM1 HB1 HSZ1 z0 z1 z2 z3 z4 zlt HEB d0 d1 d2 d3 d4; obtain ⟨z0, z1, z2, z3, z4, zlt⟩ := HEB3) | (at_mapUpdate; refine wpList_sets_put rfl _ _ _ rfl (s0 + 1) m S rfl HM3.out x.nm rfl rfl HNx.out (by omega) ?_; intro w4 hm4 hg4; have hb4 := grown_below hB3 hg4.out (by omega) hsz3; have HG4 := Lib.hid (HG3.out.blk (hg4.out.block s0 HG3.out.lt (by intro e; injection e with e; omega))); clear hg4))
     go_roundg (g.m - (k + 1))
     case measure => omega
     case rel => exact ⟨k + 1, m + 1, _, by go_num, by omega, by omega, by omega, HA2, HST, hm4, HG4, hb4⟩
   ·have HR := Lib.hid (hno (by rw [hrow]; rfl))
    have hB3 := HB1.out
    clear hno hnx hrow
    go_wp2_with (refine wpList_sets_lookq rfl _ _ rfl (s0 + 1) m S rfl HM1.out x.nm rfl HNx.out _ HQ.out ?_)
    go_ret
    exact ⟨by rw [HR.out]; rfl, hB3⟩
  ·have hke : k = g.m := by omega
   have hltz : ¬ (k : Int) < (g.m : Int) := by omega
   have HR : Hid (r = true) := Lib.hid (by rw [HV2.out, ← hke]; exact HA.out)
   clear hke
   go_wp2_with fail
   go_ret
   exact ⟨by rw [HR.out]; rfl, hB⟩
def grpP (g : Grp) (L : List Acc) (G : List Ent) : Bool := curB g.cur && (clV g.cy g.cm g.cp && (chaB L && (rlsB L g.R && ensP L g.R G)))
set_option maxRecDepth 20000 in
set_option maxHeartbeats 3200000 in
theorem gvalid_any (g : Grp) (L : List Acc) (G : List Ent) (w : World) (hk : GrK w g L G) (hs : Sm g G) (hw : GrW g L G) :
  Calls Tryz.prog 71 #[grpV g] w fun e' w' => e' = .returned (.bool (grpP g L G)) ∧ Below w.heap.size w w' := by
 have hB := below_alloc_new (w := w) (.cells #[.string g.cur, .int .i64 g.cy, .int .i64 g.cm, .int .i64 g.cp, .slice g.A g.n g.c, .int .i64 g.r0, .int .i64 g.r1, .int .i64 g.r2, .int .i64 g.r3, .int .i64 g.r4, .int .i64 g.r5, .int .i64 g.r6, .int .i64 g.r7, .int .i64 g.r8, .int .i64 g.r9, .int .i64 g.r10, .int .i64 g.r11, .int .i64 g.r12, .int .i64 g.r13, .int .i64 g.r14, .slice g.E g.m g.d] 29)
 have hG := gb_new w 29 g
 have hk2 := hk.up hB
 have hn := hs.n
 have h1 := fun w => gcur_any g.cur w
 have h2 := fun w => cvalid7_any g.cy g.cm g.cp w
 have h3 : ∀ w, AccAt w g.A L → Calls Tryz.prog 111 #[.slice g.A g.n g.c] w fun e' w' => e' = .returned (.bool (chaB L)) ∧ Below w.heap.size w w' := fun w h => by
  have h9 := gcha_any g.A g.c L w h (by have := hk.ln; omega)
  rw [hk.ln] at h9
  exact h9
 have h4 := fun w h => groles_any g L w h hk.ln (by omega) hw.rol
 have h5 := fun w h => gents_any g L G w h hs hw
 have hv : grpP g L G = (curB g.cur && (clV g.cy g.cm g.cp && (chaB L && (rlsB L g.R && ensP L g.R G)))) := rfl
 obtain ⟨X, hX⟩ : ∃ X : Value, X = grpV g := ⟨_, rfl⟩
 rw [← hX] at h4 h5
 generalize grpP g L G = r at *
 generalize curB g.cur = q1 at *
 generalize clV g.cy g.cm g.cp = q2 at *
 generalize chaB L = q3 at *
 generalize rlsB L g.R = q4 at *
 generalize ensP L g.R G = q5 at *
 obtain ⟨s0, hs0⟩ : ∃ s0, w.heap.size = s0 := ⟨_, rfl⟩
 have hs1 : s0 ≤ (w.alloc (.cells #[.string g.cur, .int .i64 g.cy, .int .i64 g.cm, .int .i64 g.cp, .slice g.A g.n g.c, .int .i64 g.r0, .int .i64 g.r1, .int .i64 g.r2, .int .i64 g.r3, .int .i64 g.r4, .int .i64 g.r5, .int .i64 g.r6, .int .i64 g.r7, .int .i64 g.r8, .int .i64 g.r9, .int .i64 g.r10, .int .i64 g.r11, .int .i64 g.r12, .int .i64 g.r13, .int .i64 g.r14, .slice g.E g.m g.d] 29)).heap.size := by simp; omega
 rw [hs0] at hB hG ⊢
 have HX := Lib.hid hX
 have HG := Lib.hid hG
 have HK := Lib.hid hk2
 have HSZ := Lib.hid hs1
 have HCU := Lib.hid h1
 have HCL := Lib.hid h2
 have HCH := Lib.hid h3
 have HRO := Lib.hid h4
 have HEN := Lib.hid h5
 have HV := Lib.hid hv
 have c0 := hG.c0
 have c1 := hG.c1
 have c2 := hG.c2
 have c3 := hG.c3
 have c4 := hG.c4
 clear hk hs hw hG hk2 hn h1 h2 h3 h4 h5 hv hX hs1
 cases q1
 ·go_enter Tryz.func71, Tryz.ntmps71
  go_wp2_with (first | (go_at_call 109; refine (HCU.out _).mono ?_; rintro e1 w1 ⟨rfl, rfl⟩))
  go_ret
  exact ⟨by rw [HV.out]; rfl, hB⟩
 cases q2
 ·go_enter Tryz.func71, Tryz.ntmps71
  go_wp2_with (first | (go_at_call 109; refine (HCU.out _).mono ?_; rintro e1 w1 ⟨rfl, rfl⟩) | (go_at_call 110; refine (HCL.out _).mono ?_; rintro e1 w1 ⟨rfl, hb⟩; have hB9 := hB.trans (hb.mono HSZ.out); have HSZ9 := Lib.hid (Nat.le_trans HSZ.out hb.size); have HG9 := Lib.hid (HG.out.up hb); have HK9 := Lib.hid (HK.out.up hb); clear hb hB HSZ HG HK c0 c1 c2 c3 c4; have hB := hB9; have HSZ := HSZ9; have HG := HG9; have HK := HK9; clear hB9 HSZ9 HG9 HK9; have c0 := HG.out.c0; have c1 := HG.out.c1; have c2 := HG.out.c2; have c3 := HG.out.c3; have c4 := HG.out.c4))
  go_ret
  exact ⟨by rw [HV.out]; rfl, hB⟩
 cases q3
 ·go_enter Tryz.func71, Tryz.ntmps71
  go_wp2_with (first | (go_at_call 109; refine (HCU.out _).mono ?_; rintro e1 w1 ⟨rfl, rfl⟩) | (go_at_call 110; refine (HCL.out _).mono ?_; rintro e1 w1 ⟨rfl, hb⟩; have hB9 := hB.trans (hb.mono HSZ.out); have HSZ9 := Lib.hid (Nat.le_trans HSZ.out hb.size); have HG9 := Lib.hid (HG.out.up hb); have HK9 := Lib.hid (HK.out.up hb); clear hb hB HSZ HG HK c0 c1 c2 c3 c4; have hB := hB9; have HSZ := HSZ9; have HG := HG9; have HK := HK9; clear hB9 HSZ9 HG9 HK9; have c0 := HG.out.c0; have c1 := HG.out.c1; have c2 := HG.out.c2; have c3 := HG.out.c3; have c4 := HG.out.c4) | (go_at_call 111; (with_reducible refine (HCH.out _ HK.out.hz).mono ?_); rintro e1 w2 ⟨rfl, hb⟩; have hB9 := hB.trans (hb.mono HSZ.out); have HSZ9 := Lib.hid (Nat.le_trans HSZ.out hb.size); have HG9 := Lib.hid (HG.out.up hb); have HK9 := Lib.hid (HK.out.up hb); clear hb hB HSZ HG HK c0 c1 c2 c3 c4; have hB := hB9; have HSZ := HSZ9; have HG := HG9; have HK := HK9; clear hB9 HSZ9 HG9 HK9; have c0 := HG.out.c0; have c1 := HG.out.c1; have c2 := HG.out.c2; have c3 := HG.out.c3; have c4 := HG.out.c4))
  go_ret
  exact ⟨by rw [HV.out]; rfl, hB⟩
 cases q4
 ·go_enter Tryz.func71, Tryz.ntmps71
  go_wp2_with (first | (go_at_call 109; refine (HCU.out _).mono ?_; rintro e1 w1 ⟨rfl, rfl⟩) | (go_at_call 110; refine (HCL.out _).mono ?_; rintro e1 w1 ⟨rfl, hb⟩; have hB9 := hB.trans (hb.mono HSZ.out); have HSZ9 := Lib.hid (Nat.le_trans HSZ.out hb.size); have HG9 := Lib.hid (HG.out.up hb); have HK9 := Lib.hid (HK.out.up hb); clear hb hB HSZ HG HK c0 c1 c2 c3 c4; have hB := hB9; have HSZ := HSZ9; have HG := HG9; have HK := HK9; clear hB9 HSZ9 HG9 HK9; have c0 := HG.out.c0; have c1 := HG.out.c1; have c2 := HG.out.c2; have c3 := HG.out.c3; have c4 := HG.out.c4) | (go_at_call 111; (with_reducible refine (HCH.out _ HK.out.hz).mono ?_); rintro e1 w2 ⟨rfl, hb⟩; have hB9 := hB.trans (hb.mono HSZ.out); have HSZ9 := Lib.hid (Nat.le_trans HSZ.out hb.size); have HG9 := Lib.hid (HG.out.up hb); have HK9 := Lib.hid (HK.out.up hb); clear hb hB HSZ HG HK c0 c1 c2 c3 c4; have hB := hB9; have HSZ := HSZ9; have HG := HG9; have HK := HK9; clear hB9 HSZ9 HG9 HK9; have c0 := HG.out.c0; have c1 := HG.out.c1; have c2 := HG.out.c2; have c3 := HG.out.c3; have c4 := HG.out.c4) | (refine wpList_load_is rfl 29 _ rfl (.pointer (some ⟨s0, 0, none⟩)) rfl X (gb_lV HG.out HX.out) ?_) | (refine wpList_load_if rfl 29 _ rfl (.pointer (some ⟨s0, 0, none⟩)) rfl X (gb_lV HG.out HX.out) ?_) | (refine wp_load_is 29 _ rfl (.pointer (some ⟨s0, 0, none⟩)) rfl X (gb_lV HG.out HX.out) ?_) | (go_at_call 112; (with_reducible refine (HRO.out _ HK.out.hz).mono ?_); rintro e1 w3 ⟨rfl, hb⟩; have hB9 := hB.trans (hb.mono HSZ.out); have HSZ9 := Lib.hid (Nat.le_trans HSZ.out hb.size); have HG9 := Lib.hid (HG.out.up hb); have HK9 := Lib.hid (HK.out.up hb); clear hb hB HSZ HG HK c0 c1 c2 c3 c4; have hB := hB9; have HSZ := HSZ9; have HG := HG9; have HK := HK9; clear hB9 HSZ9 HG9 HK9; have c0 := HG.out.c0; have c1 := HG.out.c1; have c2 := HG.out.c2; have c3 := HG.out.c3; have c4 := HG.out.c4))
  go_ret
  exact ⟨by rw [HV.out]; rfl, hB⟩
 go_enter Tryz.func71, Tryz.ntmps71
 go_wp2_with (first | (go_at_call 109; refine (HCU.out _).mono ?_; rintro e1 w1 ⟨rfl, rfl⟩) | (go_at_call 110; refine (HCL.out _).mono ?_; rintro e1 w1 ⟨rfl, hb⟩; have hB9 := hB.trans (hb.mono HSZ.out); have HSZ9 := Lib.hid (Nat.le_trans HSZ.out hb.size); have HG9 := Lib.hid (HG.out.up hb); have HK9 := Lib.hid (HK.out.up hb); clear hb hB HSZ HG HK c0 c1 c2 c3 c4; have hB := hB9; have HSZ := HSZ9; have HG := HG9; have HK := HK9; clear hB9 HSZ9 HG9 HK9; have c0 := HG.out.c0; have c1 := HG.out.c1; have c2 := HG.out.c2; have c3 := HG.out.c3; have c4 := HG.out.c4) | (go_at_call 111; (with_reducible refine (HCH.out _ HK.out.hz).mono ?_); rintro e1 w2 ⟨rfl, hb⟩; have hB9 := hB.trans (hb.mono HSZ.out); have HSZ9 := Lib.hid (Nat.le_trans HSZ.out hb.size); have HG9 := Lib.hid (HG.out.up hb); have HK9 := Lib.hid (HK.out.up hb); clear hb hB HSZ HG HK c0 c1 c2 c3 c4; have hB := hB9; have HSZ := HSZ9; have HG := HG9; have HK := HK9; clear hB9 HSZ9 HG9 HK9; have c0 := HG.out.c0; have c1 := HG.out.c1; have c2 := HG.out.c2; have c3 := HG.out.c3; have c4 := HG.out.c4) | (refine wpList_load_is rfl 29 _ rfl (.pointer (some ⟨s0, 0, none⟩)) rfl X (gb_lV HG.out HX.out) ?_) | (refine wpList_load_if rfl 29 _ rfl (.pointer (some ⟨s0, 0, none⟩)) rfl X (gb_lV HG.out HX.out) ?_) | (refine wp_load_is 29 _ rfl (.pointer (some ⟨s0, 0, none⟩)) rfl X (gb_lV HG.out HX.out) ?_) | (go_at_call 112; (with_reducible refine (HRO.out _ HK.out.hz).mono ?_); rintro e1 w3 ⟨rfl, hb⟩; have hB9 := hB.trans (hb.mono HSZ.out); have HSZ9 := Lib.hid (Nat.le_trans HSZ.out hb.size); have HG9 := Lib.hid (HG.out.up hb); have HK9 := Lib.hid (HK.out.up hb); clear hb hB HSZ HG HK c0 c1 c2 c3 c4; have hB := hB9; have HSZ := HSZ9; have HG := HG9; have HK := HK9; clear hB9 HSZ9 HG9 HK9; have c0 := HG.out.c0; have c1 := HG.out.c1; have c2 := HG.out.c2; have c3 := HG.out.c3; have c4 := HG.out.c4) | (go_at_call 113; (with_reducible refine (HEN.out _ HK.out).mono ?_); rintro e1 w4 ⟨rfl, hb⟩; have hB9 := hB.trans (hb.mono HSZ.out); have HSZ9 := Lib.hid (Nat.le_trans HSZ.out hb.size); have HG9 := Lib.hid (HG.out.up hb); have HK9 := Lib.hid (HK.out.up hb); clear hb hB HSZ HG HK c0 c1 c2 c3 c4; have hB := hB9; have HSZ := HSZ9; have HG := HG9; have HK := HK9; clear hB9 HSZ9 HG9 HK9; have c0 := HG.out.c0; have c1 := HG.out.c1; have c2 := HG.out.c2; have c3 := HG.out.c3; have c4 := HG.out.c4))
 go_ret
 exact ⟨by rw [HV.out]; rfl, hB⟩
theorem wpList_box_lk {P : Program} {w : World} {ops : Array Oper} {rest : List Oper} {o : Oper} {a : Act} {Q : Exit → Act → World → Prop} (hg : o.guard = none) (ty : TypeId) (x : Operand) (hop : o.op = .box ty x) (V : Value) (hx : a.eval x = V) (cs : List Value) (hV : V = .agg cs.toArray)
  (h : ∀ b W, Hid (Wh ty W b cs) → Hid (Below w.heap.size w W) → Hid (b = w.heap.size) → wpList P ops Q rest (a.put o.dst (.pointer (some ⟨b, 0, none⟩))) W) : wpList P ops Q (o :: rest) a w := by
 refine wpList_plain hg fun K hK => ?_
 have hrun : (Instr.box ty V).run P w = .ok (.pointer (some ⟨w.heap.size, 0, none⟩)) (w.alloc (.cells cs.toArray ty)) := by
  rw [hV]
  simp [Instr.box, newVar, newRow, Value.cells]
 unfold Oper.wp execOp
 simp only [hop, hx, Sem.run_bind, hrun, Sem.run_pure, Result.andThen_ok]
 exact hK _ _ (h _ _ (Lib.hid (Wh.new w ty cs)) (Lib.hid (below_alloc_new _)) (Lib.hid rfl))
theorem grpP_lk {g : Grp} {L : List Acc} {G : List Ent} (h : grpP g L G = true) : clV g.cy g.cm g.cp = true := by
 unfold grpP at h
 simp only [Bool.and_eq_true] at h
 exact h.2.1
def LNew (g : Grp) (B : Nat) (e : Ending) (w' : World) : Prop := ∃ b bm, e = .returned (.tuple #[.pointer (some ⟨b, 0, none⟩), .int .i64 0]) ∧ LK w' ⟨b, (g.m : Int), g.cy, g.cm, g.cp, bm⟩ 0 [] ∧ B ≤ b ∧ B ≤ bm
def LNewQ (g : Grp) (L : List Acc) (G : List Ent) (B : Nat) (e : Ending) (w' : World) : Prop := if grpP g L G = true then LNew g B e w' else e = .returned (.tuple #[.pointer none, .int .i64 1])
theorem lk_build (a y m k : Int) (b : Nat) (w : World) : (Instr.build 122 #[(0, .int .i64 a), (1, .agg #[.int .i64 y, .int .i64 m, .int .i64 k]), (2, .map (some b))]).run Tryz.prog w = .ok (.agg #[.int .i64 a, .int .i64 y, .int .i64 m, .int .i64 k, .map (some b)]) w :=
 run_build w 122 _ _ (by kernel_rfl)
set_option maxRecDepth 100000 in
set_option maxHeartbeats 6400000 in
theorem lnew_any (g : Grp) (L : List Acc) (G : List Ent) (w : World) (hk : GrK w g L G) (hs : Sm g G) (hw : GrW g L G) : Calls Tryz.prog 29 #[grpV g] w fun e w' => LNewQ g L G w.heap.size e w' ∧ Below w.heap.size w w' := by
 have HV := Lib.hid (fun W (h : GrK W g L G) => gvalid_any g L G W h hs hw)
 obtain ⟨s0, hs0⟩ : ∃ s0, w.heap.size = s0 := ⟨_, rfl⟩
 obtain ⟨w2, hw2⟩ : ∃ w2, w.alloc (.cells #[.string g.cur, .int .i64 g.cy, .int .i64 g.cm, .int .i64 g.cp, .slice g.A g.n g.c, .int .i64 g.r0, .int .i64 g.r1, .int .i64 g.r2, .int .i64 g.r3, .int .i64 g.r4, .int .i64 g.r5, .int .i64 g.r6, .int .i64 g.r7, .int .i64 g.r8, .int .i64 g.r9, .int .i64 g.r10, .int .i64 g.r11, .int .i64 g.r12, .int .i64 g.r13, .int .i64 g.r14, .slice g.E g.m g.d] 29) = w2 := ⟨_, rfl⟩
 have HGB : Hid (Wh 29 w2 s0 (grpC g)) := Lib.hid (by rw [← hw2, ← hs0]; exact Wh.new w 29 (grpC g))
 have HB2 : Hid (Below s0 w w2) := Lib.hid (by rw [← hw2, ← hs0]; exact below_alloc_new _)
 have HS2 : Hid (w2.heap.size = s0 + 1) := Lib.hid (by rw [← hw2, ← hs0]; simp)
 have HK2 := Lib.hid (hk.up (HB2.out.mono (Nat.le_of_eq hs0)))
 have HS0 := Lib.hid hs0
 obtain ⟨GV, hGV⟩ : ∃ GV, GV = grpV g := ⟨_, rfl⟩
 have HLG : Hid (∀ w9, Below w2.heap.size w2 w9 → (Instr.loadAt 29 (.pointer (some ⟨s0, 0, none⟩))).run Tryz.prog w9 = .ok GV w9) := Lib.hid (fun w9 h9 => by rw [hGV, grpV_is]; exact (HGB.out.up h9).rg.load 0 29 (grpC g) rfl _ Tryz.underlying29 rfl (by kernel_rfl))
 rw [← hGV] at HV
 clear hk hGV hs hw
 have hmm := @run_makeMap Tryz.prog
 cases hq : grpP g L G
 ·rw [hq] at HV
  have HQ := Lib.hid hq
  clear hq
  have HM1 : True := trivial
  go_enter Tryz.func29, Tryz.ntmps29
  go_wp2_with (first
   | (clear HM1; refine wpList_load_is rfl 29 _ rfl (.pointer (some ⟨s0, 0, none⟩)) rfl GV (HLG.out _ (Below.refl _ _)) ?_)
   | (go_at_call 71; refine (HV.out _ HK2.out).mono ?_; rintro e w3 ⟨rfl, hb⟩; have HB3 := Lib.hid hb; clear hb))
  go_ret2
  exact ⟨by unfold LNewQ; rw [HQ.out]; rfl, by rw [HS0.out]; exact HB2.out.trans (HB3.out.mono (by have := HS2.out; omega))⟩
 ·rw [hq] at HV
  have HQ := Lib.hid hq
  have HCL := Lib.hid (grpP_lk hq)
  clear hq
  have HM1 : True := trivial
  have HM4 : True := trivial
  go_enter Tryz.func29, Tryz.ntmps29
  go_upto_region 3 with (first
   | (clear HM1; refine wpList_load_is rfl 29 _ rfl (.pointer (some ⟨s0, 0, none⟩)) rfl GV (HLG.out _ (Below.refl _ _)) ?_)
   | (go_at_call 71; refine (HV.out _ HK2.out).mono ?_; rintro e w3 ⟨rfl, hb⟩; have HB3 := Lib.hid hb; clear hb))
  have hg3 := HGB.out.up HB3.out
  have c1 := hg3.at 1 _ rfl
  have c2 := hg3.at 2 _ rfl
  have c3 := hg3.at 3 _ rfl
  have c20 := hg3.at 20 _ rfl
  clear hg3
  obtain ⟨s3, hs3⟩ : ∃ s3, w3.heap.size = s3 := ⟨_, rfl⟩
  have HS3 := Lib.hid hs3
  obtain ⟨w5, hw5⟩ : ∃ w5, w3.alloc (.map #[] 0) = w5 := ⟨_, rfl⟩
  have HI : Hid (MapS w5 s3 0 fun _ => false) := Lib.hid (by rw [← hw5, ← hs3]; exact MapS.made w3)
  have HB5 : Hid (Below w3.heap.size w3 w5) := Lib.hid (by rw [← hw5]; exact below_alloc_new _)
  go_wp2_with (first
   | (refine wpList_build_is rfl 122 _ rfl [(0, .int .i64 (g.m : Int)), (1, .agg #[.int .i64 g.cy, .int .i64 g.cm, .int .i64 g.cp]), (2, .map (some s3))] rfl (.agg #[.int .i64 (g.m : Int), .int .i64 g.cy, .int .i64 g.cm, .int .i64 g.cp, .map (some s3)]) (lk_build _ _ _ _ _ _) ?_)
   | (refine wpList_box_lk rfl 122 _ rfl (.agg #[.int .i64 (g.m : Int), .int .i64 g.cy, .int .i64 g.cm, .int .i64 g.cp, .map (some s3)]) rfl [.int .i64 (g.m : Int), .int .i64 g.cy, .int .i64 g.cm, .int .i64 g.cp, .map (some s3)] rfl ?_; intro jb w6 hj6 hb6 hjb; have HJ6 := Lib.hid hj6.out; have HB6 := Lib.hid hb6.out; have HJB := Lib.hid hjb.out; clear hj6 hb6 hjb))
  go_ret2
  have h3 := HB3.out
  have h5 := HB5.out
  have h6 := HB6.out
  have s2e := HS2.out
  have s3e := HS3.out
  have h33 := h3.size
  have h55 := h5.size
  refine ⟨by unfold LNewQ; rw [HQ.out, if_pos rfl]; exact ⟨jb, s3, rfl, ⟨HJ6.out, (HI.out.up h6).ext (fun c => by simp), GoodL.nil, HCL.out⟩, (by rw [HJB.out, HS0.out]; omega), (by rw [HS0.out]; omega)⟩, ?_⟩
  ·rw [HS0.out]
   exact (HB2.out.trans (h3.mono (by omega))).trans ((h5.trans (h6.mono h55)).mono (by omega))
section
variable {w : World}
end
open Go.RowKit
structure Two (wr wx : World) (p q : Nat) (g : Grp) : Prop where
 gp : GB wx p g
 gq : GB wx q g
 fp : wx.there p 0 21
 fq : wx.there q 0 21
 ne : p ≠ q
 hp : wr.heap.size ≤ p
 hq : wr.heap.size ≤ q
 below : Below wr.heap.size wr wx
def entC (e : Ent) : List Value := [.string e.nm, .string e.cur, .slice e.A e.n e.c, .slice e.B e.m e.d, .bool e.jt]
theorem entC_get : ∀ (G : List Ent) (i : Nat), i < G.length → ∀ j, j < 5 → (G.flatMap entC)[i * 5 + j]? = (entC (G.getD i ent0))[j]?
 | [], i, h => by simp at h
 | a :: G, 0, _ => fun j hj => by
  rw [List.flatMap_cons, Nat.zero_mul, Nat.zero_add, List.getElem?_append_left (by simpa [entC] using hj)]; rfl
 | a :: G, i + 1, h => fun j hj => by
  have := entC_get G i (by simpa using h) j hj
  have e1 : (i + 1) * 5 + j = i * 5 + j + (entC a).length := by simp [entC]; omega
  rw [List.flatMap_cons, e1, List.getElem?_append_right (by omega), Nat.add_sub_cancel]
  simpa using this
structure Lay (α : Type) where
 cel : α → List Value
 s : Nat
 len : ∀ a, (cel a).length = s
 one : ∀ a, ∀ v ∈ cel a, v.oneCell' = true
 pos : 0 < s
section
variable {α : Type} {R : Lay α} {w w' : World} {A : Option Addr} {L : List α} {e : TypeId} {base : Nat} {v : Value}
def Lay.all (R : Lay α) (L : List α) : List Value := L.flatMap R.cel
theorem Lay.all_len (R : Lay α) : ∀ L : List α, (R.all L).length = L.length * R.s
 | [] => by simp [Lay.all]
 | a :: L => by
  have h := Lay.all_len R L
  unfold Lay.all at h ⊢
  rw [List.flatMap_cons, List.length_append, h, R.len, List.length_cons, Nat.add_mul]
  omega
theorem Lay.get (R : Lay α) : ∀ (L : List α) (i : Nat) (a : α), L[i]? = some a → ∀ j, j < R.s → (R.all L)[i * R.s + j]? = (R.cel a)[j]?
 | [], i, a, h, _, _ => by simp at h
 | b :: L, 0, a, h, j, hj => by
  simp at h; subst h
  unfold Lay.all
  rw [List.flatMap_cons, Nat.zero_mul, Nat.zero_add, List.getElem?_append_left (by rw [R.len]; exact hj)]
 | b :: L, i + 1, a, h, j, hj => by
  have h1 := Lay.get R L i a (by simpa using h) j hj
  unfold Lay.all at h1 ⊢
  rw [List.flatMap_cons, List.getElem?_append_right (by rw [R.len, Nat.add_mul]; omega), R.len, ← h1]
  congr 1
  rw [Nat.add_mul]; omega
theorem Lay.all_append (R : Lay α) (L M : List α) : R.all (L ++ M) = R.all L ++ R.all M := List.flatMap_append
theorem Lay.all_one (R : Lay α) (L : List α) : ∀ v ∈ R.all L, v.oneCell' = true := by
 intro v hv
 obtain ⟨a, _, ha⟩ := List.mem_flatMap.1 hv
 exact R.one a v ha
def RowAt (R : Lay α) (w : World) (A : Option Addr) (L : List α) : Prop := 0 < L.length → ∃ b off, A = some ⟨b, off, none⟩ ∧ b < w.heap.size ∧ w.rangeAt b off (R.all L)
theorem RowAt.nil : RowAt R w A [] := fun h => absurd h (by simp)
theorem RowAt.at (h : RowAt R w A L) {i : Nat} {a : α} (hi : L[i]? = some a) : ∃ b off, A = some ⟨b, off, none⟩ ∧ b < w.heap.size ∧ w.rangeAt b (off + i * R.s) (R.cel a) := by
 have hil : i < L.length := (List.getElem?_eq_some_iff.1 hi).1
 obtain ⟨b, off, e, hlt, hc⟩ := h (by omega)
 refine ⟨b, off, e, hlt, fun j v hj => ?_⟩
 have hjs : j < R.s := by
  rw [← R.len a]
  exact (List.getElem?_eq_some_iff.1 hj).1
 rw [Nat.add_assoc]
 exact hc _ _ ((R.get L i a hi j hjs).trans hj)
theorem RowAt.up (h : RowAt R w A L) (hb : Below w.heap.size w w') : RowAt R w' A L := fun h0 => by
 obtain ⟨b, off, e, hlt, hc⟩ := h h0
 exact ⟨b, off, e, Nat.lt_of_lt_of_le hlt hb.size, fun j v hj => (hb.cell (p := ⟨b, off + j, none⟩) hlt).trans (hc j v hj)⟩
def OwnR (R : Lay α) (e : TypeId) (w : World) (base : Nat) (v : Value) (L : List α) : Prop := w.ownsRow base e R.s v L.length (R.all L)
theorem OwnR.nil : OwnR R e w base (.slice none 0 0) ([] : List α) := World.ownsRow_nil _ _ _ _
theorem OwnR.blk (h : OwnR R e w base v L) (hk : ∀ g, v.ownBlock = some g → w'.heap[g]? = w.heap[g]?) : OwnR R e w' base v L := by
 obtain ⟨h1, h2⟩ := h
 refine ⟨h1, ?_⟩
 rcases h2 with h2 | ⟨g, cap, cur, rfl, hbg, hg, rest⟩
 ·exact .inl h2
 ·exact .inr ⟨g, cap, cur, rfl, hbg, (hk g rfl).trans hg, rest⟩
theorem OwnR.lt (h : OwnR R e w base v L) {g : Nat} (hg : v.ownBlock = some g) : base ≤ g ∧ g < w.heap.size := World.ownsRow.lt h g hg
theorem OwnR.up (h : OwnR R e w base v L) (hb : Below w.heap.size w w') : OwnR R e w' base v L := h.blk fun g hg => hb.block g (h.lt hg).2
theorem OwnR.low {b2 : Nat} (h : OwnR R e w base v L) (hb : b2 ≤ base) : OwnR R e w b2 v L := by
 obtain ⟨h1, h2⟩ := h
 rcases h2 with h2 | ⟨g, cap, cur, rfl, hbg, hg⟩
 ·exact ⟨h1, .inl h2⟩
 ·exact ⟨h1, .inr ⟨g, cap, cur, rfl, Nat.le_trans hb hbg, hg⟩⟩
theorem OwnR.empty (hb : base ≤ w.heap.size) : OwnR R e (w.alloc (.cells #[] e)) base (.slice (some ⟨w.heap.size, 0, none⟩) 0 0) ([] : List α) :=
 ⟨by simp [Lay.all], .inr ⟨w.heap.size, 0, #[], rfl, hb, heap_alloc_new _ _, Nat.le_refl _, Nat.zero_le _, by simp, by simp [Lay.all]⟩⟩
theorem OwnR.reads (h : OwnR R e w base v L) : ∃ A c, v = .slice A L.length c ∧ RowAt R w A L ∧ (∀ g o, A = some ⟨g, o, none⟩ → v.ownBlock = some g ∧ o = 0) := by
 obtain ⟨h1, h2⟩ := h
 rcases h2 with ⟨rfl, h0⟩ | ⟨g, cap, cur, rfl, hbg, hg, hn, hcap, hsz, hcur⟩
 ·obtain rfl : L = [] := List.eq_nil_of_length_eq_zero h0
  exact ⟨none, 0, rfl, RowAt.nil, fun g o h => by cases h⟩
 ·refine ⟨_, cap, rfl, fun _ => ⟨g, 0, rfl, ?_, fun j u hj => ?_⟩, fun g' o h => by cases h; exact ⟨rfl, rfl⟩⟩
  ·rcases Nat.lt_or_ge g w.heap.size with hlt | hge
   ·exact hlt
   ·rw [Array.getElem?_eq_none hge] at hg; cases hg
  ·have hjl : j < L.length * R.s := by rw [← R.all_len]; exact (List.getElem?_eq_some_iff.1 hj).1
   rw [Nat.zero_add, ← hj, ← hcur, List.getElem?_take, if_pos hjl]
   simp only [World.cell?, hg]
   simp
theorem row_one {x : α} {g : Nat} {t : TypeId} (h : Wh t w g (R.cel x)) : RowAt R w (some ⟨g, 0, none⟩) [x] := fun _ => ⟨g, 0, rfl, h.lt, by
 have : R.all [x] = R.cel x := by simp [Lay.all]
 rw [this]
 exact h.range⟩
theorem wp_app_row {P : Program} {o : Oper} {a : Act} {K : Act → World → Prop} {Q : Exit → Act → World → Prop} (s x : Operand) (t : TypeId)
  (ho : o.op = .call { callee := .builtin .append, args := #[s, x], argTypes := #[t, t] })
  (i : TypeInfo) (z : Value) (bytes : Nat) (ht : P.underlying t = some (.slice e)) (hi : P.info? e = some i) (hz : i.zero = some z) (hsize : i.size = R.s) (hby : i.bytes = bytes) (hb8 : bytes ≤ 1000) (hzs : z.cells.size = R.s)
  (hs : a.eval s = v) (hown : OwnR R e w base v L) (X : Option Addr) (m c : Nat) (M : List α) (hm : M.length = m) (hx : a.eval x = .slice X m c) (hX : RowAt R w X M)
  (hlen : L.length + m ≤ 100000000) (hbase : base ≤ w.heap.size)
  (h : ∀ v' w', Hid (OwnR R e w' base v' (L ++ M)) → Hid (w.grownBy w' v.ownBlock) → Hid (v'.ownBlock = v.ownBlock ∨ v'.ownBlock = some w.heap.size) → K (a.put o.dst v') w') : Oper.wp P o a w K Q := by
 subst hm
 have hbb : (L.length + M.length) * bytes ≤ (L.length + M.length) * 1000 := Nat.mul_le_mul_left _ hb8
 rcases Nat.eq_zero_or_pos M.length with h0 | h0
 ·obtain rfl : M = [] := List.eq_nil_of_length_eq_zero h0
  have hrun : (Builtin.append_ #[t, t] o.type #[v, .slice X 0 c]).run P w = .ok v w := by
   rcases hown.2 with ⟨rfl, h9⟩ | ⟨g, cap, cur, rfl, hb, hg, hn, hcap, hcs, hcur⟩
   ·cases X <;> simp [Builtin.append_, run_underlying ht, sizeOf, typeInfo, hi, Builtin.lenOf, Builtin.firstCells, loadCells, loadCellsFrom]
   ·cases X <;> simp [Builtin.append_, run_underlying ht, sizeOf, typeInfo, hi, Builtin.lenOf, Builtin.firstCells, storeCells, loadCells, loadCellsFrom, hn]
  unfold Oper.wp
  simp [execOp, ho, resolve, invoke, builtin, hs, hx, hrun, Result.andThen]
  exact h v w (Lib.hid (by simpa using hown)) (Lib.hid ⟨rfl, rfl, rfl, Nat.le_refl _, fun _ _ _ => rfl⟩) (Lib.hid (.inl rfl))
 ·obtain ⟨b, off, rfl, hlt, hc⟩ := hX h0
  obtain ⟨v', w', hr, h2, h3, h4, h5⟩ := run_append_own_at (P := P) w base t o.type e i z R.s bytes ht hi hz hsize hby hzs R.pos v L.length (R.all L) hown ⟨b, off, none⟩ M.length c (R.all M) (R.all_len M)
   (fun j u hj => by
    have hadd : (⟨b, off, none⟩ : Addr).add j = ⟨b, off + j, none⟩ := by unfold Addr.add; split <;> simp_all
    rw [hadd]
    exact hc j u hj) (R.all_one M) (by unfold maxLen; omega) (by omega) hbase
  unfold Oper.wp execOp
  simp only [ho, resolve, invoke, builtin, Sem.run_bind, Sem.run_pure, Result.andThen_ok, List.map_toArray, List.map_cons, List.map_nil, hs, hx, hr]
  refine h v' w' (Lib.hid ?_) (Lib.hid h3) (Lib.hid h5)
  unfold OwnR
  rw [List.length_append, R.all_append]
  exact h2
theorem wpList_app_row {P : Program} {ops : Array Oper} {rest : List Oper} {o : Oper} {a : Act} {Q : Exit → Act → World → Prop} (hg : o.guard = none) (s x : Operand) (t : TypeId)
  (ho : o.op = .call { callee := .builtin .append, args := #[s, x], argTypes := #[t, t] })
  (i : TypeInfo) (z : Value) (bytes : Nat) (ht : P.underlying t = some (.slice e)) (hi : P.info? e = some i) (hz : i.zero = some z) (hsize : i.size = R.s) (hby : i.bytes = bytes) (hb8 : bytes ≤ 1000) (hzs : z.cells.size = R.s)
  (hs : a.eval s = v) (hown : OwnR R e w base v L) (X : Option Addr) (m c : Nat) (M : List α) (hm : M.length = m) (hx : a.eval x = .slice X m c) (hX : RowAt R w X M)
  (hlen : L.length + m ≤ 100000000) (hbase : base ≤ w.heap.size)
  (h : ∀ v' w', Hid (OwnR R e w' base v' (L ++ M)) → Hid (w.grownBy w' v.ownBlock) → Hid (v'.ownBlock = v.ownBlock ∨ v'.ownBlock = some w.heap.size) → wpList P ops Q rest (a.put o.dst v') w') : wpList P ops Q (o :: rest) a w :=
 wpList_plain hg fun _ hK => wp_app_row s x t ho i z bytes ht hi hz hsize hby hb8 hzs hs hown X m c M hm hx hX hlen hbase fun v' w' h1 h2 h3 => hK _ _ (h v' w' h1 h2 h3)
end
theorem own_apart {α β : Type} {R : Lay α} {R' : Lay β} {w : World} {e e' : TypeId} {b b' : Nat} {v v' : Value} {L : List α} {L' : List β} (h : OwnR R e w b v L) (h2 : OwnR R' e' w b' v' L') (hne : e ≠ e') {g : Nat} (hg : v.ownBlock = some g) (hg2 : v'.ownBlock = some g) : False := by
 rcases h.2 with ⟨rfl, _⟩ | ⟨g1, _, c1, rfl, _, k1, _⟩
 ·cases hg
 rcases h2.2 with ⟨rfl, _⟩ | ⟨g2, _, c2, rfl, _, k2, _⟩
 ·cases hg2
 cases hg; cases hg2
 rw [k1] at k2
 injection k2 with k2
 injection k2 with _ k3
 exact hne k3
def lyL : Lay Lnk := ⟨celL, 3, fun _ => rfl, fun a v hv => by simp [celL] at hv; rcases hv with rfl | rfl | rfl <;> rfl, by decide⟩
def lyA : Lay Acc := ⟨celA, 4, fun _ => rfl, fun a v hv => by simp [celA] at hv; rcases hv with rfl | rfl | rfl | rfl <;> rfl, by decide⟩
def lyE : Lay Ent := ⟨entC, 5, fun _ => rfl, fun a v hv => by simp [entC] at hv; rcases hv with rfl | rfl | rfl | rfl | rfl <;> rfl, by decide⟩
theorem lnk_row {w : World} {A : Option Addr} {L : List Lnk} : RowAt lyL w A L ↔ LnkAt w A L := by
 constructor
 ·intro h h0
  obtain ⟨b, off, e, hlt, hc⟩ := h h0
  refine ⟨b, off, e, hlt, fun i hi => ?_⟩
  obtain ⟨k0, k1, k2⟩ := celL_get L i hi
  exact ⟨hc _ _ k0, by rw [Nat.add_assoc]; exact hc _ _ k1, by rw [Nat.add_assoc]; exact hc _ _ k2⟩
 ·intro h h0
  obtain ⟨b, off, e, hlt, hc⟩ := h h0
  refine ⟨b, off, e, hlt, fun j v hj => ?_⟩
  have hjl : j < L.length * 3 := by
   have := lyL.all_len L
   rw [show lyL.s = 3 from rfl] at this
   rw [← this]
   exact (List.getElem?_eq_some_iff.1 hj).1
  have h3 : j % 3 = 0 ∨ j % 3 = 1 ∨ j % 3 = 2 := by omega
  rw [show lyL.all L = L.flatMap celL from rfl] at hj
  rcases h3 with h2 | h2 | h2
  ·obtain ⟨q, rfl⟩ : ∃ q, j = q * 3 := ⟨j / 3, by omega⟩
   rw [(celL_get L q (by omega)).1] at hj; injection hj with hj; subst hj
   exact (hc q (by omega)).c0
  ·obtain ⟨q, rfl⟩ : ∃ q, j = q * 3 + 1 := ⟨j / 3, by omega⟩
   rw [(celL_get L q (by omega)).2.1] at hj; injection hj with hj; subst hj
   rw [← Nat.add_assoc]
   exact (hc q (by omega)).c1
  ·obtain ⟨q, rfl⟩ : ∃ q, j = q * 3 + 2 := ⟨j / 3, by omega⟩
   rw [(celL_get L q (by omega)).2.2] at hj; injection hj with hj; subst hj
   rw [← Nat.add_assoc]
   exact (hc q (by omega)).c2
section
variable {S T : Nat → Prop} {P P' : World → Prop} {w w' : World}
end
open Go.RowKit
def crow : Nat → List Int
 | 0 => [1000, 1010, 1100, 1200]
 | 1 => [1300, 1500, 1600, 1700]
 | 2 => [2000, 2100]
 | 3 => [3000, 3100, 3200, 3300, 3400, 3500]
 | 4 => [4000, 4100, 4500, 4600, 4700]
 | 5 => [5000, 5100, 5500, 5600, 5700]
 | _ => []
def krow (i : Nat) : Int := [1, 1, 2, 3, 4, 5].getD i 0
def brow (i : Nat) : Int := [1, 3, 1, 3, 2, 2].getD i 0
def parN (c : Int) : Int := if c = 1010 ∨ c = 1100 ∨ c = 1200 then 1000 else if c = 2100 ∨ c = 4100 then c - 100 else 0
def accN (i k : Nat) : Acc := ⟨(crow i).getD k 0, krow i, brow i, parN ((crow i).getD k 0)⟩
def scN (i k : Nat) : List Acc := ((List.range i).flatMap fun r => (List.range (crow r).length).map (accN r)) ++ (List.range k).map (accN i)
def smpL : List Acc := scN 6 0
def seK (i : Nat) : Int := [1, 1, 1, 1, 1, 2, 2, 3, 3, 4, 4, 4, 5, 5].getD i 0
def seT (i : Nat) : Int := [1010, 1100, 1200, 1300, 1500, 2000, 2100, 3000, 3300, 4000, 4100, 4700, 5000, 5100].getD i 0
def seA (i : Nat) : List Acc := (List.range i).map fun (j : Nat) => ⟨10 * ((j : Int) + 1), seK j, 0, 0⟩
def seL (i : Nat) : List Lnk := (List.range i).map fun (j : Nat) => ⟨10 * ((j : Int) + 1), seT j, -25567⟩
theorem seA_s (i : Nat) : seA (i + 1) = seA i ++ [⟨10 * ((i : Int) + 1), seK i, 0, 0⟩] := by simp [seA, List.range_succ]
theorem seL_s (i : Nat) : seL (i + 1) = seL i ++ [⟨10 * ((i : Int) + 1), seT i, -25567⟩] := by simp [seL, List.range_succ]
theorem infoLk : (Tryz.prog.info? 173).map (fun i => (i.zero, i.size, i.bytes)) = some (some (.agg #[.int .i64 0, .int .i64 0, .int .i64 0]), 3, 24) := by kernel_rfl
section
variable {α : Type} (R : Lay α) (e : TypeId) (wr : World) (s0 : Nat) (vs : Value) (nm cu : ByteArray) (va vl : Value) (f : Nat) (L : List α) (x : α)
end
section
variable {α : Type} {R : Lay α} {e : TypeId} {wr : World} {s0 : Nat} {vs : Value} {nm cu : ByteArray} {va vl : Value} {f : Nat} {L : List α} {x : α} {l : List Value} {v : Value} {W : World}
end
open Go.RowKit
def smpG (A : Option Addr) (c : Nat) (E : Option Addr) : Grp := ⟨⟨#[69, 85, 82]⟩, 2026, 1, 36, A, 26, c, 1500, 1600, 1700, 1200, 3100, 3200, 3300, 3400, 3500, 4500, 4600, 4700, 5500, 5600, 5700, E, 4, 4⟩
def smpN (i : Nat) : ByteArray := ([⟨#[112, 97, 114, 101, 110, 116]⟩, ⟨#[110, 111, 114, 116, 104]⟩, ⟨#[119, 101, 115, 116]⟩, ⟨#[106, 111, 105, 110, 116]⟩] : List ByteArray).getD i ⟨#[]⟩
def smpC (i : Nat) : ByteArray := ([⟨#[69, 85, 82]⟩, ⟨#[69, 85, 82]⟩, ⟨#[85, 83, 68]⟩, ⟨#[85, 83, 68]⟩] : List ByteArray).getD i ⟨#[]⟩
structure EAd where
 A : Option Addr
 c : Nat
 B : Option Addr
 d : Nat
def smpE (i : Nat) (jt : Bool) (p : EAd) : Ent := ⟨smpN i, smpC i, p.A, 14, p.c, p.B, 14, p.d, jt, seA 14, seL 14⟩
def smpEs (p0 p1 p2 p3 : EAd) : List Ent := [smpE 0 false p0, smpE 1 false p1, smpE 2 false p2, smpE 3 true p3]
set_option maxRecDepth 100000 in
theorem smp_len : smpL.length = 26 := by decide
set_option maxRecDepth 100000 in
theorem smp_ok (A : Option Addr) (c : Nat) (E : Option Addr) (p0 p1 p2 p3 : EAd) : grpP (smpG A c E) smpL (smpEs p0 p1 p2 p3) = true := by
 kernel_rfl
theorem acc_row {w : World} {A : Option Addr} {L : List Acc} (h : RowAt lyA w A L) : AccAt w A L := by
 intro h0
 obtain ⟨b, off, e, hlt, hc⟩ := h h0
 refine ⟨b, off, e, hlt, fun i hi => ?_⟩
 obtain ⟨k0, k1, k2, k3⟩ := celA_get L i hi
 exact ⟨hc _ _ k0, by rw [Nat.add_assoc]; exact hc _ _ k1, by rw [Nat.add_assoc]; exact hc _ _ k2, by rw [Nat.add_assoc]; exact hc _ _ k3⟩
theorem ents_row {w : World} {A : Option Addr} {G : List Ent} (h : RowAt lyE w A G) : EntsAt w A G := by
 intro h0
 obtain ⟨b, off, e, hlt, hc⟩ := h h0
 refine ⟨b, off, e, hlt, fun i hi => ?_⟩
 have k := fun j v hj (hv : (entC (G.getD i ent0))[j]? = some v) => hc (i * 5 + j) v ((entC_get G i hi j hj).trans hv)
 exact ⟨k 0 _ (by omega) rfl, by rw [Nat.add_assoc]; exact k 1 _ (by omega) rfl, by rw [Nat.add_assoc]; exact k 2 _ (by omega) rfl, by rw [Nat.add_assoc]; exact k 3 _ (by omega) rfl, by rw [Nat.add_assoc]; exact k 4 _ (by omega) rfl⟩
def EOw (base : Nat) (p : EAd) (w : World) : Prop := OwnR lyA 151 w base (.slice p.A 14 p.c) (seA 14) ∧ OwnR lyL 173 w base (.slice p.B 14 p.d) (seL 14)
theorem EOw.up {base : Nat} {p : EAd} {w w' : World} (h : EOw base p w) (hb : Below w.heap.size w w') : EOw base p w' := ⟨h.1.up hb, h.2.up hb⟩
theorem EOw.low {b base : Nat} {p : EAd} {w : World} (h : EOw base p w) (hb : b ≤ base) : EOw b p w := ⟨h.1.low hb, h.2.low hb⟩
theorem EOw.k {base : Nat} {p : EAd} {w : World} (h : EOw base p w) : EntK w p.A 14 (seA 14) p.B 14 (seL 14) := by
 obtain ⟨A, c, e1, h1, -⟩ := h.1.reads
 obtain ⟨B, d, e2, h2, -⟩ := h.2.reads
 injection e1 with e1 _ _
 injection e2 with e2 _ _
 rw [← e1] at h1
 rw [← e2] at h2
 exact ⟨rfl, rfl, acc_row h1, lnk_row.1 h2, by unfold WfC; decide +kernel, by
  have : ∀ l ∈ seL 14, (Lit.int .i64 l.frm).wf = true ∧ (Lit.int .i64 l.tgt).wf = true ∧ (Lit.int .i64 l.since).wf = true := by decide +kernel
  exact fun l hl => ⟨(this l hl).1, (this l hl).2.1, (this l hl).2.2⟩⟩
structure EtyK (w : World) (x : Ety) (X : List Lnk) : Prop where
 ln : X.length = x.n
 hz : LnkAt w x.A X
 ok : ∀ l ∈ X, okK (kOf l) ∧ (Lit.int .i64 l.tgt).wf = true
structure V9 (w : World) (s0 : Nat) (nm cur : ByteArray) (A : Option Addr) (n cp : Nat) (B : Option Addr) (m d : Nat) (jt : Bool) (L : List Acc) (K : List Lnk) (C : Option Addr) (c : List Acc) : Prop where
 eb : EB w s0 nm cur A n cp B m d jt
 hz : AccAt w A L
 hy : LnkAt w B K
 hx : AccAt w C c
theorem V9.up {w w2 : World} {s0 : Nat} {nm cur : ByteArray} {A : Option Addr} {n cp : Nat} {B : Option Addr} {m d : Nat} {jt : Bool} {L : List Acc} {K : List Lnk} {C : Option Addr} {c : List Acc} (h : V9 w s0 nm cur A n cp B m d jt L K C c) (hb : Below w.heap.size w w2) : V9 w2 s0 nm cur A n cp B m d jt L K C c :=
 ⟨h.eb.up hb, h.hz.up hb, h.hy.up hb, h.hx.up hb⟩
theorem mvB_no5 {L : List Acc} {K : List Lnk} {c : List Acc} {k : Nat} (hk : k < K.length) (h : dfB K k = false) : mvB L K c = false := by
 unfold mvB
 rw [allTo_no (p := dfB K) hk h]; simp
theorem dfB_no {K : List Lnk} {k j : Nat} (hj : j < k) (h : smB K k j = true) : dfB K k = false := by
 unfold dfB
 exact allTo_no (k := j) hj (by rw [h]; rfl)
set_option maxRecDepth 20000 in
set_option maxHeartbeats 6400000 in
theorem rval9_any (nm cur : ByteArray) (A : Option Addr) (cp : Nat) (L : List Acc) (B : Option Addr) (d : Nat) (K : List Lnk) (jt : Bool) (C : Option Addr) (cc : Nat) (c : List Acc) (w : World) (hz : AccAt w A L) (hy : LnkAt w B K) (hx : AccAt w C c) (hl : L.length ≤ 1000) (hm : K.length ≤ 1000) (hc : c.length ≤ 1000) :
  Calls Tryz.prog 127 #[entV nm cur A L.length cp B K.length d jt, .slice C c.length cc] w fun e w' => e = .returned (.bool (mvB L K c)) ∧ Below w.heap.size w w' := by
 have hB := below_alloc_new (w := w) (.cells #[.string nm, .string cur, .slice A L.length cp, .slice B K.length d, .bool jt] 119)
 have hV9 : V9 (w.alloc (.cells #[.string nm, .string cur, .slice A L.length cp, .slice B K.length d, .bool jt] 119)) w.heap.size nm cur A L.length cp B K.length d jt L K C c := ⟨eb_new _ _ _ _ _ _ _ _ _ _ _, hz.up hB, hy.up hB, hx.up hB⟩
 have h1 : ∀ w, AccAt w C c → Calls Tryz.prog 122 #[.slice C c.length cc, .bool true] w fun e w' => e = .returned (.bool (vB c true)) ∧ Below w.heap.size w w' := fun w h => by rw [vB_eq]; exact rvalid8_any C cc c true w h hc
 have h2 : ∀ w, AccAt w A L → Calls Tryz.prog 122 #[.slice A L.length cp, .bool false] w fun e w' => e = .returned (.bool (vB L false)) ∧ Below w.heap.size w w' := fun w h => by rw [vB_eq]; exact rvalid8_any A cp L false w h hl
 have h3 := fun x w h => rfind_any A cp L x w h hl
 have h4 := fun x w h => rfind_any C cc c x w h hc
 have h5 := fun x w => rvd_any x w
 have N1 := mvB_no1 (L := L) (K := K) (c := c)
 have N2 := mvB_no2 (L := L) (K := K) (c := c)
 have N3 := mvB_no3 (L := L) (K := K) (c := c)
 have N4 := fun k => mvB_no4 (L := L) (K := K) (c := c) (k := k)
 have N5 := fun k j (hk : k < K.length) (hj : j < k) h => mvB_no5 (L := L) (c := c) hk (dfB_no (K := K) hj h)
 have NE := fun h1 h2 h3 h4 (h5 : allTo (dfB K) K.length = true) => (mvB_end (L := L) (K := K) (c := c) h1 h2 h3 h4).trans h5
 have hD : ∀ i, dfB K i = allTo (fun k => !smB K i k) i := fun _ => rfl
 have hS : ∀ i k, smB K i k = (decide ((K.getD k lnk0).frm = (K.getD i lnk0).frm) && decide ((K.getD k lnk0).since = (K.getD i lnk0).since)) := fun _ _ => rfl
 have hP : ∀ k, lnkB L c (K.getD k lnk0) = ((fnd L (K.getD k lnk0).frm).isSome && ((fnd c (K.getD k lnk0).tgt).isSome && (decide ((fndA L (K.getD k lnk0).frm).kind = (fndA c (K.getD k lnk0).tgt).kind) && vdB (K.getD k lnk0).since))) := fun _ => rfl
 generalize mvB L K c = r at *
 obtain ⟨P, hPe⟩ : ∃ P : Nat → Bool, (fun i => lnkB L c (K.getD i lnk0)) = P := ⟨_, rfl⟩
 have hPk : ∀ k, lnkB L c (K.getD k lnk0) = P k := fun k => by rw [← hPe]
 rw [hPe] at NE
 simp only [hPk] at N4 hP
 obtain ⟨D9, hD9⟩ : ∃ D9 : Nat → Bool, dfB K = D9 := ⟨_, rfl⟩
 rw [hD9] at NE
 simp only [hD9] at hD
 obtain ⟨S9, hS9⟩ : ∃ S9 : Nat → Nat → Bool, smB K = S9 := ⟨_, rfl⟩
 simp only [hS9] at hD hS N5
 obtain ⟨b1, hb1⟩ : ∃ b, vB c true = b := ⟨_, rfl⟩
 rw [hb1] at h1 N1 NE
 obtain ⟨b2, hb2⟩ : ∃ b, vB L false = b := ⟨_, rfl⟩
 rw [hb2] at h2 N2 NE
 obtain ⟨n, hn2⟩ : ∃ n, L.length = n := ⟨_, rfl⟩
 obtain ⟨k0, hk0⟩ : ∃ k0, c.length = k0 := ⟨_, rfl⟩
 obtain ⟨m, hm2⟩ : ∃ m, K.length = m := ⟨_, rfl⟩
 obtain ⟨s0, hs0⟩ : ∃ s0, w.heap.size = s0 := ⟨_, rfl⟩
 rw [hn2, hm2] at hV9 hB
 rw [hs0] at hV9 hB
 rw [hn2] at h2 h3
 rw [hk0] at h1 h4
 rw [hm2] at N3 N4 N5 NE hm
 rw [hn2, hm2, hk0]
 have HN1 := Lib.hid N1
 have HN2 := Lib.hid N2
 have HN3 := Lib.hid N3
 have HN4 := Lib.hid N4
 have HN5 := Lib.hid N5
 have HNE := Lib.hid NE
 have HD := Lib.hid hD
 have HS := Lib.hid hS
 have HP := Lib.hid hP
 have HM := Lib.hid hm2
 have H1 := Lib.hid h1
 have H2 := Lib.hid h2
 have H3 := Lib.hid h3
 have H4 := Lib.hid h4
 have H5 := Lib.hid h5
 have HS0 := Lib.hid hs0
 have HV := Lib.hid hV9
 obtain ⟨c0, c1, c2, c3, c4, lt⟩ := HV.out.eb
 rw [← HS0.out] at c0 c1 c2 c3 c4 lt
 clear hz hy hx h1 h2 h3 h4 h5 N1 N2 N3 N4 N5 NE hD hS hP hPe hPk hD9 hS9 hb1 hb2 hn2 hk0 hm2 hs0 hl hc hV9
 cases b1
 ·have HR := Lib.hid (HN1.out rfl)
  clear HN1 HN2 HN3 HN4 HN5 HNE
  go_enter Tryz.func127, Tryz.ntmps127
  go_wp2_with (go_at_call 122; first
   | ((with_reducible refine (H1.out _ HV.out.hx).mono ?_); rintro e w1 ⟨rfl, hb⟩; have hsq := hB.size; rw [HS0.out] at hsq; replace HV := Lib.hid (HV.out.up hb); replace hB := hB.trans (hb.mono hsq); clear hb hsq c0 c1 c2 c3 c4 lt; obtain ⟨c0, c1, c2, c3, c4, lt⟩ := HV.out.eb; rw [← HS0.out] at c0 c1 c2 c3 c4 lt))
  go_ret
  exact ⟨by rw [HR.out]; rfl, by first | exact hB | (rw [HS0.out]; exact hB)⟩
 cases b2
 ·have HR := Lib.hid (HN2.out rfl)
  clear HN1 HN2 HN3 HN4 HN5 HNE
  go_enter Tryz.func127, Tryz.ntmps127
  go_wp2_with (go_at_call 122; first
   | ((with_reducible refine (H1.out _ HV.out.hx).mono ?_); rintro e w1 ⟨rfl, hb⟩; have hsq := hB.size; rw [HS0.out] at hsq; replace HV := Lib.hid (HV.out.up hb); replace hB := hB.trans (hb.mono hsq); clear hb hsq c0 c1 c2 c3 c4 lt; obtain ⟨c0, c1, c2, c3, c4, lt⟩ := HV.out.eb; rw [← HS0.out] at c0 c1 c2 c3 c4 lt)
   | ((with_reducible refine (H2.out _ HV.out.hz).mono ?_); rintro e w2 ⟨rfl, hb⟩; have hsq := hB.size; rw [HS0.out] at hsq; replace HV := Lib.hid (HV.out.up hb); replace hB := hB.trans (hb.mono hsq); clear hb hsq c0 c1 c2 c3 c4 lt; obtain ⟨c0, c1, c2, c3, c4, lt⟩ := HV.out.eb; rw [← HS0.out] at c0 c1 c2 c3 c4 lt))
  go_ret
  exact ⟨by rw [HR.out]; rfl, by first | exact hB | (rw [HS0.out]; exact hB)⟩
 rcases Nat.lt_or_ge 400 m with hm4 | hm4
 ·have HR := Lib.hid (HN3.out hm4)
  have e4 : decide ((400 : Int) < (m : Int)) = true := decide_eq_true (by omega)
  clear HN1 HN2 HN3 HN4 HN5 HNE hm4
  go_enter Tryz.func127, Tryz.ntmps127
  go_wp2_with (go_at_call 122; first
   | ((with_reducible refine (H1.out _ HV.out.hx).mono ?_); rintro e w1 ⟨rfl, hb⟩; have hsq := hB.size; rw [HS0.out] at hsq; replace HV := Lib.hid (HV.out.up hb); replace hB := hB.trans (hb.mono hsq); clear hb hsq c0 c1 c2 c3 c4 lt; obtain ⟨c0, c1, c2, c3, c4, lt⟩ := HV.out.eb; rw [← HS0.out] at c0 c1 c2 c3 c4 lt)
   | ((with_reducible refine (H2.out _ HV.out.hz).mono ?_); rintro e w2 ⟨rfl, hb⟩; have hsq := hB.size; rw [HS0.out] at hsq; replace HV := Lib.hid (HV.out.up hb); replace hB := hB.trans (hb.mono hsq); clear hb hsq c0 c1 c2 c3 c4 lt; obtain ⟨c0, c1, c2, c3, c4, lt⟩ := HV.out.eb; rw [← HS0.out] at c0 c1 c2 c3 c4 lt))
  go_ret
  exact ⟨by rw [HR.out]; rfl, by first | exact hB | (rw [HS0.out]; exact hB)⟩
 have e4 : decide ((400 : Int) < (m : Int)) = false := decide_eq_false (by omega)
 have HNE2 := Lib.hid (HNE.out rfl rfl hm4)
 clear HN1 HN2 HN3 HNE hm4
 go_enter Tryz.func127, Tryz.ntmps127
 go_wp2_with (go_at_call 122; first
  | ((with_reducible refine (H1.out _ HV.out.hx).mono ?_); rintro e w1 ⟨rfl, hb⟩; have hsq := hB.size; rw [HS0.out] at hsq; replace HV := Lib.hid (HV.out.up hb); replace hB := hB.trans (hb.mono hsq); clear hb hsq c0 c1 c2 c3 c4 lt; obtain ⟨c0, c1, c2, c3, c4, lt⟩ := HV.out.eb; rw [← HS0.out] at c0 c1 c2 c3 c4 lt)
  | ((with_reducible refine (H2.out _ HV.out.hz).mono ?_); rintro e w2 ⟨rfl, hb⟩; have hsq := hB.size; rw [HS0.out] at hsq; replace HV := Lib.hid (HV.out.up hb); replace hB := hB.trans (hb.mono hsq); clear hb hsq c0 c1 c2 c3 c4 lt; obtain ⟨c0, c1, c2, c3, c4, lt⟩ := HV.out.eb; rw [← HS0.out] at c0 c1 c2 c3 c4 lt))
 clear c0 c1 c2 c3 c4 lt
 rw [HS0.out]
 go_loopg [5] m (fun kx s5 wr => ∃ k : Nat, s5 = .int .i64 k ∧ k ≤ m ∧ m - k ≤ kx ∧ Hid (allTo P k = true) ∧ Hid (allTo D9 k = true) ∧ Hid (V9 wr s0 nm cur A n cp B m d jt L K C c) ∧ Below s0 w wr)
 case atStart => exact ⟨0, rfl, by omega, by omega, Lib.hid rfl, Lib.hid rfl, HV, hB⟩
 case round =>
  clear HV hB
  try clear HV
  try clear hB
  obtain ⟨k, rfl, hk, hkx, HA, HA9, HV, hB⟩ := hrel
  have hsz : s0 ≤ wr.heap.size := by have := hB.size; have := HS0.out; omega
  obtain ⟨c0, c1, c2, c3, c4, lt⟩ := HV.out.eb
  by_cases hlt : k < m
  ·have hltz : (k : Int) < (m : Int) := by omega
   obtain ⟨b, off, eB, hbw, hcs⟩ := HV.out.hy (by rw [HM.out]; omega)
   subst eB
   have l3 := hcs k (by rw [HM.out]; exact hlt)
   have hp := HP.out k
   have hno := HN4.out k hlt
   have hs9 := fun j => HS.out k j
   obtain ⟨x, hx⟩ : ∃ x, K.getD k lnk0 = x := ⟨_, rfl⟩
   rw [hx] at l3 hp
   simp only [hx] at hs9
   have hb6 := below_alloc_new (w := wr) (.cells #[.int .i64 x.frm, .int .i64 x.tgt, .int .i64 x.since] 173)
   have HV1 := Lib.hid (HV.out.up hb6)
   have HL1 := Lib.hid (lb_new wr 173 x)
   have HB1 : Hid (Below s0 w (wr.alloc (.cells #[.int .i64 x.frm, .int .i64 x.tgt, .int .i64 x.since] 173))) := Lib.hid (hB.alloc hsz _)
   have HSZ1 : Hid (s0 ≤ (wr.alloc (.cells #[.int .i64 x.frm, .int .i64 x.tgt, .int .i64 x.since] 173)).heap.size) := Lib.hid (by simp; omega)
   have h3 := fun w h => H3.out x.frm w h
   have h4 := fun w h => H4.out x.tgt w h
   have h5 := fun w => H5.out x.since w
   generalize (fnd L x.frm).isSome = q1 at *
   generalize (fnd c x.tgt).isSome = q2 at *
   generalize fndA L x.frm = fa at *
   generalize fndA c x.tgt = fb at *
   generalize vdB x.since = q4 at *
   obtain ⟨q3, hq3⟩ : ∃ q3, decide (fa.kind = fb.kind) = q3 := ⟨_, rfl⟩
   have e3 : (fa.kind != fb.kind) = !q3 := by rw [← hq3]; by_cases h : fa.kind = fb.kind <;> simp [h]
   rw [hq3] at hp
   obtain ⟨d0, d1, d2⟩ := l3
   obtain ⟨⟨v0, v1, v2⟩, vlt⟩ := HL1.out
   simp only [Nat.zero_add] at v1 v2
   obtain ⟨y0, y1, y2, y3, y4, ylt⟩ := HV1.out.eb
   have H3x := Lib.hid h3
   have H4x := Lib.hid h4
   have H5x := Lib.hid h5
   have HS9 := Lib.hid hs9
   have HNo := Lib.hid hno
   have HPx := Lib.hid hp
   have HXE := Lib.hid hx
   clear hcs hx hb6 h3 h4 h5 hq3 hp hno hs9
   rcases (show q1 = false ∨ (q1 = true ∧ q2 = false) ∨ (q1 = true ∧ q2 = true ∧ q3 = false) ∨ (q1 = true ∧ q2 = true ∧ q3 = true ∧ q4 = false) ∨ (q1 = true ∧ q2 = true ∧ q3 = true ∧ q4 = true) from by cases q1 <;> cases q2 <;> cases q3 <;> cases q4 <;> simp) with rfl | ⟨rfl, rfl⟩ | ⟨rfl, rfl, rfl⟩ | ⟨rfl, rfl, rfl, rfl⟩ | ⟨rfl, rfl, rfl, rfl⟩
   ·have HR := Lib.hid (HNo.out (by rw [HPx.out]; rfl))
    clear HNo HPx
    go_wp2_with (first
     | (go_at_call 105; first
     | ((with_reducible refine (H3x.out _ HV1.out.hz).mono ?_); rintro e w2 ⟨rfl, hb⟩; have HA3 := Lib.hid (ab_new w2 151 fa); have HV2 := Lib.hid ((HV1.out.up hb).up (below_alloc_new (.cells #[.int .i64 fa.code, .int .i64 fa.kind, .int .i64 fa.basis, .int .i64 fa.par] 151))); have HL2 := Lib.hid ((HL1.out.up hb).up (below_alloc_new (.cells #[.int .i64 fa.code, .int .i64 fa.kind, .int .i64 fa.basis, .int .i64 fa.par] 151))); have HB2 := Lib.hid ((HB1.out.trans (hb.mono HSZ1.out)).alloc (Nat.le_trans HSZ1.out hb.size) (.cells #[.int .i64 fa.code, .int .i64 fa.kind, .int .i64 fa.basis, .int .i64 fa.par] 151)); have HSZ2 : Hid (s0 ≤ (w2.alloc (.cells #[.int .i64 fa.code, .int .i64 fa.kind, .int .i64 fa.basis, .int .i64 fa.par] 151)).heap.size) := Lib.hid (Nat.le_trans (Nat.le_trans HSZ1.out hb.size) (by (simp))); clear hb v0 v1 v2 vlt y0 y1 y2 y3 y4 ylt; obtain ⟨⟨v0, v1, v2⟩, vlt⟩ := HL2.out; simp only [Nat.zero_add] at v1 v2; obtain ⟨y0, y1, y2, y3, y4, ylt⟩ := HV2.out.eb)
     | ((with_reducible refine (H4x.out _ HV2.out.hx).mono ?_); rintro e w3 ⟨rfl, hb⟩; have HA4 := Lib.hid ((HA3.out.up hb).up (below_alloc_new (.cells #[.int .i64 fb.code, .int .i64 fb.kind, .int .i64 fb.basis, .int .i64 fb.par] 151))); have HA5 := Lib.hid (ab_new w3 151 fb); have HV3 := Lib.hid ((HV2.out.up hb).up (below_alloc_new (.cells #[.int .i64 fb.code, .int .i64 fb.kind, .int .i64 fb.basis, .int .i64 fb.par] 151))); have HL3 := Lib.hid ((HL2.out.up hb).up (below_alloc_new (.cells #[.int .i64 fb.code, .int .i64 fb.kind, .int .i64 fb.basis, .int .i64 fb.par] 151))); have HB3 := Lib.hid ((HB2.out.trans (hb.mono HSZ2.out)).alloc (Nat.le_trans HSZ2.out hb.size) (.cells #[.int .i64 fb.code, .int .i64 fb.kind, .int .i64 fb.basis, .int .i64 fb.par] 151)); clear hb v0 v1 v2 vlt y0 y1 y2 y3 y4 ylt; obtain ⟨⟨v0, v1, v2⟩, vlt⟩ := HL3.out; simp only [Nat.zero_add] at v1 v2; obtain ⟨y0, y1, y2, y3, y4, ylt⟩ := HV3.out.eb; obtain ⟨⟨x0, x1, x2, x3⟩, xlt⟩ := HA4.out; obtain ⟨⟨z0, z1, z2, z3⟩, zlt⟩ := HA5.out; simp only [Nat.zero_add] at x1 x2 x3 z1 z2 z3))
     | (go_at_call 136; (with_reducible refine (H5x.out _).mono ?_); rintro e w4 ⟨rfl, rfl⟩))
    go_ret
    exact ⟨by rw [HR.out]; rfl, by first | exact HB3.out | (rw [HS0.out]; exact HB3.out)⟩
   ·have HR := Lib.hid (HNo.out (by rw [HPx.out]; rfl))
    clear HNo HPx
    go_wp2_with (first
     | (go_at_call 105; first
     | ((with_reducible refine (H3x.out _ HV1.out.hz).mono ?_); rintro e w2 ⟨rfl, hb⟩; have HA3 := Lib.hid (ab_new w2 151 fa); have HV2 := Lib.hid ((HV1.out.up hb).up (below_alloc_new (.cells #[.int .i64 fa.code, .int .i64 fa.kind, .int .i64 fa.basis, .int .i64 fa.par] 151))); have HL2 := Lib.hid ((HL1.out.up hb).up (below_alloc_new (.cells #[.int .i64 fa.code, .int .i64 fa.kind, .int .i64 fa.basis, .int .i64 fa.par] 151))); have HB2 := Lib.hid ((HB1.out.trans (hb.mono HSZ1.out)).alloc (Nat.le_trans HSZ1.out hb.size) (.cells #[.int .i64 fa.code, .int .i64 fa.kind, .int .i64 fa.basis, .int .i64 fa.par] 151)); have HSZ2 : Hid (s0 ≤ (w2.alloc (.cells #[.int .i64 fa.code, .int .i64 fa.kind, .int .i64 fa.basis, .int .i64 fa.par] 151)).heap.size) := Lib.hid (Nat.le_trans (Nat.le_trans HSZ1.out hb.size) (by (simp))); clear hb v0 v1 v2 vlt y0 y1 y2 y3 y4 ylt; obtain ⟨⟨v0, v1, v2⟩, vlt⟩ := HL2.out; simp only [Nat.zero_add] at v1 v2; obtain ⟨y0, y1, y2, y3, y4, ylt⟩ := HV2.out.eb)
     | ((with_reducible refine (H4x.out _ HV2.out.hx).mono ?_); rintro e w3 ⟨rfl, hb⟩; have HA4 := Lib.hid ((HA3.out.up hb).up (below_alloc_new (.cells #[.int .i64 fb.code, .int .i64 fb.kind, .int .i64 fb.basis, .int .i64 fb.par] 151))); have HA5 := Lib.hid (ab_new w3 151 fb); have HV3 := Lib.hid ((HV2.out.up hb).up (below_alloc_new (.cells #[.int .i64 fb.code, .int .i64 fb.kind, .int .i64 fb.basis, .int .i64 fb.par] 151))); have HL3 := Lib.hid ((HL2.out.up hb).up (below_alloc_new (.cells #[.int .i64 fb.code, .int .i64 fb.kind, .int .i64 fb.basis, .int .i64 fb.par] 151))); have HB3 := Lib.hid ((HB2.out.trans (hb.mono HSZ2.out)).alloc (Nat.le_trans HSZ2.out hb.size) (.cells #[.int .i64 fb.code, .int .i64 fb.kind, .int .i64 fb.basis, .int .i64 fb.par] 151)); clear hb v0 v1 v2 vlt y0 y1 y2 y3 y4 ylt; obtain ⟨⟨v0, v1, v2⟩, vlt⟩ := HL3.out; simp only [Nat.zero_add] at v1 v2; obtain ⟨y0, y1, y2, y3, y4, ylt⟩ := HV3.out.eb; obtain ⟨⟨x0, x1, x2, x3⟩, xlt⟩ := HA4.out; obtain ⟨⟨z0, z1, z2, z3⟩, zlt⟩ := HA5.out; simp only [Nat.zero_add] at x1 x2 x3 z1 z2 z3))
     | (go_at_call 136; (with_reducible refine (H5x.out _).mono ?_); rintro e w4 ⟨rfl, rfl⟩))
    go_ret
    exact ⟨by rw [HR.out]; rfl, by first | exact HB3.out | (rw [HS0.out]; exact HB3.out)⟩
   ·have HR := Lib.hid (HNo.out (by rw [HPx.out]; rfl))
    clear HNo HPx
    go_wp2_with (first
     | (go_at_call 105; first
     | ((with_reducible refine (H3x.out _ HV1.out.hz).mono ?_); rintro e w2 ⟨rfl, hb⟩; have HA3 := Lib.hid (ab_new w2 151 fa); have HV2 := Lib.hid ((HV1.out.up hb).up (below_alloc_new (.cells #[.int .i64 fa.code, .int .i64 fa.kind, .int .i64 fa.basis, .int .i64 fa.par] 151))); have HL2 := Lib.hid ((HL1.out.up hb).up (below_alloc_new (.cells #[.int .i64 fa.code, .int .i64 fa.kind, .int .i64 fa.basis, .int .i64 fa.par] 151))); have HB2 := Lib.hid ((HB1.out.trans (hb.mono HSZ1.out)).alloc (Nat.le_trans HSZ1.out hb.size) (.cells #[.int .i64 fa.code, .int .i64 fa.kind, .int .i64 fa.basis, .int .i64 fa.par] 151)); have HSZ2 : Hid (s0 ≤ (w2.alloc (.cells #[.int .i64 fa.code, .int .i64 fa.kind, .int .i64 fa.basis, .int .i64 fa.par] 151)).heap.size) := Lib.hid (Nat.le_trans (Nat.le_trans HSZ1.out hb.size) (by (simp))); clear hb v0 v1 v2 vlt y0 y1 y2 y3 y4 ylt; obtain ⟨⟨v0, v1, v2⟩, vlt⟩ := HL2.out; simp only [Nat.zero_add] at v1 v2; obtain ⟨y0, y1, y2, y3, y4, ylt⟩ := HV2.out.eb)
     | ((with_reducible refine (H4x.out _ HV2.out.hx).mono ?_); rintro e w3 ⟨rfl, hb⟩; have HA4 := Lib.hid ((HA3.out.up hb).up (below_alloc_new (.cells #[.int .i64 fb.code, .int .i64 fb.kind, .int .i64 fb.basis, .int .i64 fb.par] 151))); have HA5 := Lib.hid (ab_new w3 151 fb); have HV3 := Lib.hid ((HV2.out.up hb).up (below_alloc_new (.cells #[.int .i64 fb.code, .int .i64 fb.kind, .int .i64 fb.basis, .int .i64 fb.par] 151))); have HL3 := Lib.hid ((HL2.out.up hb).up (below_alloc_new (.cells #[.int .i64 fb.code, .int .i64 fb.kind, .int .i64 fb.basis, .int .i64 fb.par] 151))); have HB3 := Lib.hid ((HB2.out.trans (hb.mono HSZ2.out)).alloc (Nat.le_trans HSZ2.out hb.size) (.cells #[.int .i64 fb.code, .int .i64 fb.kind, .int .i64 fb.basis, .int .i64 fb.par] 151)); clear hb v0 v1 v2 vlt y0 y1 y2 y3 y4 ylt; obtain ⟨⟨v0, v1, v2⟩, vlt⟩ := HL3.out; simp only [Nat.zero_add] at v1 v2; obtain ⟨y0, y1, y2, y3, y4, ylt⟩ := HV3.out.eb; obtain ⟨⟨x0, x1, x2, x3⟩, xlt⟩ := HA4.out; obtain ⟨⟨z0, z1, z2, z3⟩, zlt⟩ := HA5.out; simp only [Nat.zero_add] at x1 x2 x3 z1 z2 z3))
     | (go_at_call 136; (with_reducible refine (H5x.out _).mono ?_); rintro e w4 ⟨rfl, rfl⟩))
    go_ret
    exact ⟨by rw [HR.out]; rfl, by first | exact HB3.out | (rw [HS0.out]; exact HB3.out)⟩
   ·have HR := Lib.hid (HNo.out (by rw [HPx.out]; rfl))
    clear HNo HPx
    go_wp2_with (first
     | (go_at_call 105; first
     | ((with_reducible refine (H3x.out _ HV1.out.hz).mono ?_); rintro e w2 ⟨rfl, hb⟩; have HA3 := Lib.hid (ab_new w2 151 fa); have HV2 := Lib.hid ((HV1.out.up hb).up (below_alloc_new (.cells #[.int .i64 fa.code, .int .i64 fa.kind, .int .i64 fa.basis, .int .i64 fa.par] 151))); have HL2 := Lib.hid ((HL1.out.up hb).up (below_alloc_new (.cells #[.int .i64 fa.code, .int .i64 fa.kind, .int .i64 fa.basis, .int .i64 fa.par] 151))); have HB2 := Lib.hid ((HB1.out.trans (hb.mono HSZ1.out)).alloc (Nat.le_trans HSZ1.out hb.size) (.cells #[.int .i64 fa.code, .int .i64 fa.kind, .int .i64 fa.basis, .int .i64 fa.par] 151)); have HSZ2 : Hid (s0 ≤ (w2.alloc (.cells #[.int .i64 fa.code, .int .i64 fa.kind, .int .i64 fa.basis, .int .i64 fa.par] 151)).heap.size) := Lib.hid (Nat.le_trans (Nat.le_trans HSZ1.out hb.size) (by (simp))); clear hb v0 v1 v2 vlt y0 y1 y2 y3 y4 ylt; obtain ⟨⟨v0, v1, v2⟩, vlt⟩ := HL2.out; simp only [Nat.zero_add] at v1 v2; obtain ⟨y0, y1, y2, y3, y4, ylt⟩ := HV2.out.eb)
     | ((with_reducible refine (H4x.out _ HV2.out.hx).mono ?_); rintro e w3 ⟨rfl, hb⟩; have HA4 := Lib.hid ((HA3.out.up hb).up (below_alloc_new (.cells #[.int .i64 fb.code, .int .i64 fb.kind, .int .i64 fb.basis, .int .i64 fb.par] 151))); have HA5 := Lib.hid (ab_new w3 151 fb); have HV3 := Lib.hid ((HV2.out.up hb).up (below_alloc_new (.cells #[.int .i64 fb.code, .int .i64 fb.kind, .int .i64 fb.basis, .int .i64 fb.par] 151))); have HL3 := Lib.hid ((HL2.out.up hb).up (below_alloc_new (.cells #[.int .i64 fb.code, .int .i64 fb.kind, .int .i64 fb.basis, .int .i64 fb.par] 151))); have HB3 := Lib.hid ((HB2.out.trans (hb.mono HSZ2.out)).alloc (Nat.le_trans HSZ2.out hb.size) (.cells #[.int .i64 fb.code, .int .i64 fb.kind, .int .i64 fb.basis, .int .i64 fb.par] 151)); clear hb v0 v1 v2 vlt y0 y1 y2 y3 y4 ylt; obtain ⟨⟨v0, v1, v2⟩, vlt⟩ := HL3.out; simp only [Nat.zero_add] at v1 v2; obtain ⟨y0, y1, y2, y3, y4, ylt⟩ := HV3.out.eb; obtain ⟨⟨x0, x1, x2, x3⟩, xlt⟩ := HA4.out; obtain ⟨⟨z0, z1, z2, z3⟩, zlt⟩ := HA5.out; simp only [Nat.zero_add] at x1 x2 x3 z1 z2 z3))
     | (go_at_call 136; (with_reducible refine (H5x.out _).mono ?_); rintro e w4 ⟨rfl, rfl⟩))
    go_ret
    exact ⟨by rw [HR.out]; rfl, by first | exact HB3.out | (rw [HS0.out]; exact HB3.out)⟩
   ·have HP2 : Hid (allTo P (k + 1) = true) := Lib.hid (by show (allTo P k && P k) = true; rw [HA.out, HPx.out]; rfl)
    clear HNo HPx
    go_wp2_with (first
     | (go_at_call 105; first
     | ((with_reducible refine (H3x.out _ HV1.out.hz).mono ?_); rintro e w2 ⟨rfl, hb⟩; have HA3 := Lib.hid (ab_new w2 151 fa); have HV2 := Lib.hid ((HV1.out.up hb).up (below_alloc_new (.cells #[.int .i64 fa.code, .int .i64 fa.kind, .int .i64 fa.basis, .int .i64 fa.par] 151))); have HL2 := Lib.hid ((HL1.out.up hb).up (below_alloc_new (.cells #[.int .i64 fa.code, .int .i64 fa.kind, .int .i64 fa.basis, .int .i64 fa.par] 151))); have HB2 := Lib.hid ((HB1.out.trans (hb.mono HSZ1.out)).alloc (Nat.le_trans HSZ1.out hb.size) (.cells #[.int .i64 fa.code, .int .i64 fa.kind, .int .i64 fa.basis, .int .i64 fa.par] 151)); have HSZ2 : Hid (s0 ≤ (w2.alloc (.cells #[.int .i64 fa.code, .int .i64 fa.kind, .int .i64 fa.basis, .int .i64 fa.par] 151)).heap.size) := Lib.hid (Nat.le_trans (Nat.le_trans HSZ1.out hb.size) (by (simp))); clear hb v0 v1 v2 vlt y0 y1 y2 y3 y4 ylt; obtain ⟨⟨v0, v1, v2⟩, vlt⟩ := HL2.out; simp only [Nat.zero_add] at v1 v2; obtain ⟨y0, y1, y2, y3, y4, ylt⟩ := HV2.out.eb)
     | ((with_reducible refine (H4x.out _ HV2.out.hx).mono ?_); rintro e w3 ⟨rfl, hb⟩; have HA4 := Lib.hid ((HA3.out.up hb).up (below_alloc_new (.cells #[.int .i64 fb.code, .int .i64 fb.kind, .int .i64 fb.basis, .int .i64 fb.par] 151))); have HA5 := Lib.hid (ab_new w3 151 fb); have HV3 := Lib.hid ((HV2.out.up hb).up (below_alloc_new (.cells #[.int .i64 fb.code, .int .i64 fb.kind, .int .i64 fb.basis, .int .i64 fb.par] 151))); have HL3 := Lib.hid ((HL2.out.up hb).up (below_alloc_new (.cells #[.int .i64 fb.code, .int .i64 fb.kind, .int .i64 fb.basis, .int .i64 fb.par] 151))); have HB3 := Lib.hid ((HB2.out.trans (hb.mono HSZ2.out)).alloc (Nat.le_trans HSZ2.out hb.size) (.cells #[.int .i64 fb.code, .int .i64 fb.kind, .int .i64 fb.basis, .int .i64 fb.par] 151)); clear hb v0 v1 v2 vlt y0 y1 y2 y3 y4 ylt; obtain ⟨⟨v0, v1, v2⟩, vlt⟩ := HL3.out; simp only [Nat.zero_add] at v1 v2; obtain ⟨y0, y1, y2, y3, y4, ylt⟩ := HV3.out.eb; obtain ⟨⟨x0, x1, x2, x3⟩, xlt⟩ := HA4.out; obtain ⟨⟨z0, z1, z2, z3⟩, zlt⟩ := HA5.out; simp only [Nat.zero_add] at x1 x2 x3 z1 z2 z3))
     | (go_at_call 136; (with_reducible refine (H5x.out _).mono ?_); rintro e w4 ⟨rfl, rfl⟩))
    obtain ⟨g6, hg6⟩ : ∃ g6, wr.heap.size = g6 := ⟨_, rfl⟩
    rw [hg6] at HL3 ⊢
    obtain ⟨W3, hW3⟩ : ∃ W3, w3.alloc (.cells #[.int .i64 fb.code, .int .i64 fb.kind, .int .i64 fb.basis, .int .i64 fb.par] 151) = W3 := ⟨_, rfl⟩
    rw [hW3] at HV3 HL3 HB3 ⊢
    clear v0 v1 v2 vlt y0 y1 y2 y3 y4 ylt x0 x1 x2 x3 xlt z0 z1 z2 z3 zlt HV1 HV2 HL1 HL2 HB1 HB2 HA3 HA4 HA5 c0 c1 c2 c3 c4 lt d0 d1 d2 hW3 hg6 HV
    go_loopg [11] k (fun jx s11 W => ∃ j : Nat, s11 = .int .i64 j ∧ j ≤ k ∧ k - j ≤ jx ∧ Hid (allTo (fun t => !S9 k t) j = true) ∧ Hid (V9 W s0 nm cur A n cp (some ⟨b, off, none⟩) m d jt L K C c) ∧ Hid (LB W g6 x) ∧ Below s0 w W)
    case atStart => exact ⟨0, rfl, by omega, by omega, Lib.hid rfl, HV3, HL3, HB3.out⟩
    case round =>
     clear HV3 HL3 HB3
     rename World => W
     obtain ⟨j, rfl, hj, hjx, HJ, HV, HL, hB⟩ := hrel
     obtain ⟨c0, c1, c2, c3, c4, lt⟩ := HV.out.eb
     obtain ⟨⟨v0, v1, v2⟩, vlt⟩ := HL.out
     simp only [Nat.zero_add] at v1 v2
     by_cases hjl : j < k
     ·have hjz : (j : Int) < (k : Int) := by omega
      have hjm : j < m := by omega
      have hjmz : (j : Int) < (m : Int) := by omega
      obtain ⟨b9, off9, eB, hbw, hcs⟩ := HV.out.hy (by rw [HM.out]; omega)
      cases eB
      obtain ⟨d0, d1, d2⟩ := hcs j (by rw [HM.out]; omega)
      have hs9 := HS9.out j
      have hno := HN5.out k j hlt hjl
      obtain ⟨y, hy⟩ : ∃ y, K.getD j lnk0 = y := ⟨_, rfl⟩
      rw [hy] at d0 d1 d2 hs9
      have HBK := Lib.hid hB
      clear hcs hy
      by_cases h1 : y.frm = x.frm
      ·have e1 : (y.frm == x.frm) = true := by simp [h1]
       rw [decide_eq_true h1, Bool.true_and] at hs9
       by_cases h2 : y.since = x.since
       ·have e2 : (y.since == x.since) = true := by simp [h2]
        have HR := Lib.hid (hno (hs9.trans (decide_eq_true h2)))
        clear h1 h2 hs9 hno
        go_wp2_with fail
        go_quiet (fail)
        have hB4 := below_drewN HBK.out nq
        generalize World.drewN _ nq = W8 at *
        go_wp2_with fail
        go_ret
        exact ⟨by rw [HR.out]; rfl, by first | exact hB4 | (rw [HS0.out]; exact hB4)⟩
       ·have e2 : (y.since == x.since) = false := by simp [h2]
        have HJ2 : Hid (allTo (fun t => !S9 k t) (j + 1) = true) := Lib.hid (by show (allTo (fun t => !S9 k t) j && !S9 k j) = true; rw [HJ.out, hs9, decide_eq_false h2]; rfl)
        clear h1 h2 hs9 hno
        go_wp2_with fail
        go_quiet (fail)
        have hB4 := below_drewN HBK.out nq
        have HV4 := Lib.hid (HV.out.up (below_drewN (Below.refl _ _) nq))
        have HL4 := Lib.hid (HL.out.up (below_drewN (Below.refl _ _) nq))
        clear HV HL hB HBK c0 c1 c2 c3 c4 lt v0 v1 v2 vlt d0 d1 d2
        generalize World.drewN _ nq = W8 at *
        go_wp2_with fail
        go_roundg (k - (j + 1))
        case measure => omega
        case rel => exact ⟨j + 1, by go_num, by omega, by omega, HJ2, HV4, HL4, hB4⟩
      ·have e1 : (y.frm == x.frm) = false := by simp [h1]
       have HJ2 : Hid (allTo (fun t => !S9 k t) (j + 1) = true) := Lib.hid (by show (allTo (fun t => !S9 k t) j && !S9 k j) = true; rw [HJ.out, hs9, decide_eq_false h1]; rfl)
       clear h1 hs9 hno
       go_wp2_with fail
       go_quiet (fail)
       have hB4 := below_drewN HBK.out nq
       have HV4 := Lib.hid (HV.out.up (below_drewN (Below.refl _ _) nq))
       have HL4 := Lib.hid (HL.out.up (below_drewN (Below.refl _ _) nq))
       clear HV HL hB HBK c0 c1 c2 c3 c4 lt v0 v1 v2 vlt d0 d1 d2
       generalize World.drewN _ nq = W8 at *
       go_wp2_with fail
       go_roundg (k - (j + 1))
       case measure => omega
       case rel => exact ⟨j + 1, by go_num, by omega, by omega, HJ2, HV4, HL4, hB4⟩
     ·obtain rfl : j = k := by omega
      have hjz : ¬ (j : Int) < (j : Int) := by omega
      have HD2 : Hid (allTo D9 (j + 1) = true) := Lib.hid (by show (allTo D9 j && D9 j) = true; rw [HA9.out, HD.out j]; exact HJ.out)
      go_wp2_with fail
      go_roundg (m - (j + 1))
      case measure => omega
      case rel => exact ⟨j + 1, by go_num, by omega, by omega, HP2, HD2, HV, hB⟩
  ·obtain rfl : k = m := by omega
   have hltz : ¬ (k : Int) < (k : Int) := by omega
   have HR := Lib.hid (HNE2.out HA.out HA9.out)
   go_wp2_with fail
   go_ret
   exact ⟨by rw [HR.out]; rfl, by first | exact hB | (rw [HS0.out]; exact hB)⟩
theorem gb_rU {w : World} {b : Nat} {g : Grp} {U : Value} (h : GB w b g) (hU : rolV g = U) : (Instr.loadAt 26 (.pointer (some ⟨b, 5, none⟩))).run Tryz.prog w = .ok U w := hU ▸ gb_roles h
def enrB (L : List Acc) (R : List Int) (e : Ent) : Bool := nameB e.nm && (curB e.cur && (mvB e.L e.K L && allTo (fun i => opnB R (e.K.getD i lnk0).tgt) e.K.length))
set_option maxRecDepth 20000 in
set_option maxHeartbeats 3200000 in
theorem rent_any (g : Grp) (L : List Acc) (e : Ent) (w : World) (hz : AccAt w g.A L) (ln : L.length = g.n) (hl : g.n ≤ 1000) (he : EntK w e.A e.n e.L e.B e.m e.K) (hn : e.n ≤ 1000) (hm : e.m ≤ 1000) (hs1 : e.nm.size ≤ maxLen) (hs2 : e.cur.size ≤ maxLen) :
  Calls Tryz.prog 80 #[grpV g, eV e] w fun e' w' => e' = .returned (.bool (enrB L g.R e)) ∧ Below w.heap.size w w' := by
 have hB1 := below_alloc_new (w := w) (.cells #[.string g.cur, .int .i64 g.cy, .int .i64 g.cm, .int .i64 g.cp, .slice g.A g.n g.c, .int .i64 g.r0, .int .i64 g.r1, .int .i64 g.r2, .int .i64 g.r3, .int .i64 g.r4, .int .i64 g.r5, .int .i64 g.r6, .int .i64 g.r7, .int .i64 g.r8, .int .i64 g.r9, .int .i64 g.r10, .int .i64 g.r11, .int .i64 g.r12, .int .i64 g.r13, .int .i64 g.r14, .slice g.E g.m g.d] 29)
 have hB := below_new hB1 (.cells #[.string e.nm, .string e.cur, .slice e.A e.n e.c, .slice e.B e.m e.d, .bool e.jt] 119)
 have hG := (gb_new w 29 g).up (below_alloc_new (.cells #[.string e.nm, .string e.cur, .slice e.A e.n e.c, .slice e.B e.m e.d, .bool e.jt] 119))
 have hE := eb_new (w.alloc (.cells #[.string g.cur, .int .i64 g.cy, .int .i64 g.cm, .int .i64 g.cp, .slice g.A g.n g.c, .int .i64 g.r0, .int .i64 g.r1, .int .i64 g.r2, .int .i64 g.r3, .int .i64 g.r4, .int .i64 g.r5, .int .i64 g.r6, .int .i64 g.r7, .int .i64 g.r8, .int .i64 g.r9, .int .i64 g.r10, .int .i64 g.r11, .int .i64 g.r12, .int .i64 g.r13, .int .i64 g.r14, .slice g.E g.m g.d] 29)) 119 e.nm e.cur e.A e.n e.c e.B e.m e.d e.jt
 have e1 : (w.alloc (.cells #[.string g.cur, .int .i64 g.cy, .int .i64 g.cm, .int .i64 g.cp, .slice g.A g.n g.c, .int .i64 g.r0, .int .i64 g.r1, .int .i64 g.r2, .int .i64 g.r3, .int .i64 g.r4, .int .i64 g.r5, .int .i64 g.r6, .int .i64 g.r7, .int .i64 g.r8, .int .i64 g.r9, .int .i64 g.r10, .int .i64 g.r11, .int .i64 g.r12, .int .i64 g.r13, .int .i64 g.r14, .slice g.E g.m g.d] 29)).heap.size = w.heap.size + 1 := by simp
 rw [e1] at hE
 have h1 := fun w => rnam_any e.nm w hs1
 have h2 := fun w => rcur_any e.cur w hs2
 have h3 : ∀ w, EntK w e.A e.n e.L e.B e.m e.K → AccAt w g.A L → Calls Tryz.prog 127 #[eV e, .slice g.A g.n g.c] w fun e' w' => e' = .returned (.bool (mvB e.L e.K L)) ∧ Below w.heap.size w w' := fun w h h' => by
  have h9 := rval9_any e.nm e.cur e.A e.c e.L e.B e.d e.K e.jt g.A g.c L w h.hz h.hy h' (by have := h.ln; omega) (by have := h.lm; omega) (by omega)
  rw [h.ln, h.lm, ln] at h9
  exact h9
 have h4 := fun w => rroles_any g w
 have hv : enrB L g.R e = (nameB e.nm && (curB e.cur && (mvB e.L e.K L && allTo (fun i => opnB g.R (e.K.getD i lnk0).tgt) e.K.length))) := rfl
 rw [he.lm] at hv
 obtain ⟨U, hU⟩ : ∃ U : Value, rolV g = U := ⟨_, rfl⟩
 rw [hU] at h4
 generalize enrB L g.R e = r at *
 generalize nameB e.nm = q1 at *
 generalize curB e.cur = q2 at *
 generalize mvB e.L e.K L = q3 at *
 obtain ⟨s0, hs0⟩ : ∃ s0, w.heap.size = s0 := ⟨_, rfl⟩
 have hsz : s0 ≤ ((w.alloc (.cells #[.string g.cur, .int .i64 g.cy, .int .i64 g.cm, .int .i64 g.cp, .slice g.A g.n g.c, .int .i64 g.r0, .int .i64 g.r1, .int .i64 g.r2, .int .i64 g.r3, .int .i64 g.r4, .int .i64 g.r5, .int .i64 g.r6, .int .i64 g.r7, .int .i64 g.r8, .int .i64 g.r9, .int .i64 g.r10, .int .i64 g.r11, .int .i64 g.r12, .int .i64 g.r13, .int .i64 g.r14, .slice g.E g.m g.d] 29)).alloc (.cells #[.string e.nm, .string e.cur, .slice e.A e.n e.c, .slice e.B e.m e.d, .bool e.jt] 119)).heap.size := by simp; omega
 have hek : EntK ((w.alloc (.cells #[.string g.cur, .int .i64 g.cy, .int .i64 g.cm, .int .i64 g.cp, .slice g.A g.n g.c, .int .i64 g.r0, .int .i64 g.r1, .int .i64 g.r2, .int .i64 g.r3, .int .i64 g.r4, .int .i64 g.r5, .int .i64 g.r6, .int .i64 g.r7, .int .i64 g.r8, .int .i64 g.r9, .int .i64 g.r10, .int .i64 g.r11, .int .i64 g.r12, .int .i64 g.r13, .int .i64 g.r14, .slice g.E g.m g.d] 29)).alloc (.cells #[.string e.nm, .string e.cur, .slice e.A e.n e.c, .slice e.B e.m e.d, .bool e.jt] 119)) e.A e.n e.L e.B e.m e.K := he.up hB
 have hz2 := hz.up hB
 rw [hs0] at hB hG hE ⊢
 have HS0 := Lib.hid hs0
 have HG := Lib.hid hG
 have HE := Lib.hid hE
 have HU := Lib.hid hU
 have HNM := Lib.hid h1
 have HCU := Lib.hid h2
 have HMV := Lib.hid h3
 have HRO := Lib.hid h4
 have HSZ := Lib.hid hsz
 have HEK := Lib.hid hek
 have HZ := Lib.hid hz2
 have HY := Lib.hid he.hy
 have HLM := Lib.hid he.lm
 have HV := Lib.hid hv
 have d4 := hG.c4
 obtain ⟨c0, c1, c2, c3, c4, lt⟩ := hE
 clear hz hz2 ln hl he hn hB1 hG e1 h1 h2 h3 h4 hv hU hsz hek hs1 hs2
 cases q1
 ·have HR := Lib.hid (show r = false from HV.out)
  clear HV
  go_enter Tryz.func80, Tryz.ntmps80
  go_wp2_with (first | (go_at_call 126; refine (HNM.out _).mono ?_; rintro e1 w1 ⟨rfl, rfl⟩))
  go_ret
  exact ⟨by rw [HR.out]; rfl, hB⟩
 cases q2
 ·have HR := Lib.hid (show r = false from HV.out)
  clear HV
  go_enter Tryz.func80, Tryz.ntmps80
  go_wp2_with (first | (go_at_call 126; refine (HNM.out _).mono ?_; rintro e1 w1 ⟨rfl, rfl⟩) | (go_at_call 120; refine (HCU.out _).mono ?_; rintro e1 w1 ⟨rfl, rfl⟩))
  go_ret
  exact ⟨by rw [HR.out]; rfl, hB⟩
 cases q3
 ·have HR := Lib.hid (show r = false from HV.out)
  clear HV
  go_enter Tryz.func80, Tryz.ntmps80
  go_wp2_with (first | (go_at_call 126; refine (HNM.out _).mono ?_; rintro e1 w1 ⟨rfl, rfl⟩) | (go_at_call 120; refine (HCU.out _).mono ?_; rintro e1 w1 ⟨rfl, rfl⟩) | (go_at_call 127; (with_reducible refine (HMV.out _ HEK.out HZ.out).mono ?_); rintro e1 w1 ⟨rfl, hb⟩; have hB2 := hB.trans (hb.mono HSZ.out); have HSZ2 := Lib.hid (Nat.le_trans HSZ.out hb.size); have HG2 := Lib.hid (HG.out.up hb); have HE2 := Lib.hid (HE.out.up hb); clear hb hB HSZ HG HE c0 c1 c2 c3 c4 lt; (try clear d4); have hB := hB2; have HSZ := HSZ2; have HG := HG2; have HE := HE2; clear hB2 HSZ2 HG2 HE2; obtain ⟨c0, c1, c2, c3, c4, lt⟩ := HE.out))
  go_ret
  exact ⟨by rw [HR.out]; rfl, hB⟩
 obtain ⟨P, hP⟩ : ∃ P : Nat → Bool, (fun i => opnB g.R (e.K.getD i lnk0).tgt) = P := ⟨_, rfl⟩
 have hv2 := HV.out
 rw [hP] at hv2
 have HV2 := Lib.hid (show r = allTo P e.m from hv2)
 have HP := Lib.hid (fun i => show opnB g.R (e.K.getD i lnk0).tgt = P i from by rw [← hP])
 clear HV hP hv2
 go_enter Tryz.func80, Tryz.ntmps80
 go_wp2_with (first | (go_at_call 126; refine (HNM.out _).mono ?_; rintro e1 w1 ⟨rfl, rfl⟩) | (go_at_call 120; refine (HCU.out _).mono ?_; rintro e1 w1 ⟨rfl, rfl⟩) | (go_at_call 127; (with_reducible refine (HMV.out _ HEK.out HZ.out).mono ?_); rintro e1 w1 ⟨rfl, hb⟩; have hB2 := hB.trans (hb.mono HSZ.out); have HSZ2 := Lib.hid (Nat.le_trans HSZ.out hb.size); have HG2 := Lib.hid (HG.out.up hb); have HE2 := Lib.hid (HE.out.up hb); clear hb hB HSZ HG HE c0 c1 c2 c3 c4 lt; (try clear d4); have hB := hB2; have HSZ := HSZ2; have HG := HG2; have HE := HE2; clear hB2 HSZ2 HG2 HE2; obtain ⟨c0, c1, c2, c3, c4, lt⟩ := HE.out) | (refine wpList_load_is rfl 26 _ rfl (.pointer (some ⟨s0, 5, none⟩)) rfl U (gb_rU HG.out HU.out) ?_) | (go_at_call 124; refine (HRO.out _).mono ?_; rintro e1 w2 ⟨⟨t, rfl, ht⟩, hb⟩; have HT := Lib.hid ht; clear ht; have hB2 := hB.trans (hb.mono HSZ.out); have HSZ2 := Lib.hid (Nat.le_trans HSZ.out hb.size); have HG2 := Lib.hid (HG.out.up hb); have HE2 := Lib.hid (HE.out.up hb); clear hb hB HSZ HG HE c0 c1 c2 c3 c4 lt; (try clear d4); have hB := hB2; have HSZ := HSZ2; have HG := HG2; have HE := HE2; clear hB2 HSZ2 HG2 HE2; obtain ⟨c0, c1, c2, c3, c4, lt⟩ := HE.out))
 clear hs0 HNM HCU HMV HEK HZ HG c0 c1 c2 c3 c4 lt
 obtain ⟨n, hn2⟩ : ∃ n, e.m = n := ⟨_, rfl⟩
 obtain ⟨B, hB9⟩ : ∃ B, e.B = B := ⟨_, rfl⟩
 rw [hn2] at hm HLM HV2 HE
 rw [hB9] at HY HE
 rw [hn2]
 clear hn2 hB9
 have HSW : Hid (s0 = w.heap.size) := Lib.hid HS0.out.symm
 go_loopg [6] n (fun kx s6 wr => ∃ k : Nat, s6 = .int .i64 k ∧ k ≤ n ∧ n - k ≤ kx ∧ Hid (allTo P k = true) ∧ Hid (EB wr (s0 + 1) e.nm e.cur e.A e.n e.c B n e.d e.jt) ∧ Hid (RolAt wr t g) ∧ Below s0 w wr)
 case atStart => exact ⟨0, rfl, by omega, by omega, Lib.hid rfl, HE, HT, hB⟩
 case round =>
  clear hB HE HT HSZ
  obtain ⟨k, rfl, hk, hkx, HA, HE, HT, hB⟩ := hrel
  obtain ⟨c0, c1, c2, c3, c4, lt⟩ := HE.out
  by_cases hlt : k < n
  ·have hltz : (k : Int) < (n : Int) := by omega
   obtain ⟨b, off, rfl, hbw, hcs⟩ := HY.out (by rw [HLM.out]; omega)
   have hb0 : b < s0 := by have := HS0.out; omega
   have hdl := hcs k (by rw [HLM.out]; exact hlt)
   have hp := HP.out k
   have hno : P k = false → r = false := fun h => by rw [HV2.out]; exact allTo_no hlt h
   obtain ⟨x, hx⟩ : ∃ x, e.K.getD k lnk0 = x := ⟨_, rfl⟩
   rw [hx] at hdl hp
   have HDL := Lib.hid hdl
   have HNo := Lib.hid hno
   have HPk : Hid (P k = allTo (fun j => !(decide (x.tgt = g.R.getD j 0) && !rlM j)) 15) := Lib.hid hp.symm
   clear hcs hx hp hno hbw hdl
   go_wp2_with fail
   clear c0 c1 c2 c3 c4 lt
   go_loopg [7] 15 (fun jx s7 W => ∃ j : Nat, s7 = .int .i64 j ∧ j ≤ 15 ∧ 15 - j ≤ jx ∧ Hid (allTo (fun j => !(decide (x.tgt = g.R.getD j 0) && !rlM j)) j = true) ∧ Hid (EB W (s0 + 1) e.nm e.cur e.A e.n e.c (some ⟨b, off, none⟩) n e.d e.jt) ∧ Hid (RolAt W t g) ∧ Below s0 w W)
   case atStart => exact ⟨0, rfl, by omega, by omega, Lib.hid rfl, HE, HT, hB⟩
   case round =>
    clear hB HE HT
    obtain ⟨j, rfl, hj, hjx, HJ, HE, HT, hB⟩ := hrel
    rename World => W
    by_cases hjl : j < 15
    ·have hjz : (j : Int) < 15 := by omega
     obtain ⟨c0, c1, c2, c3, c4, lt⟩ := HE.out
     obtain ⟨d0, d1, d2⟩ := HDL.out.up hB hb0
     obtain ⟨r0, r1, r2, r3, r4⟩ := HT.out.row hjl
     simp only [Nat.zero_add] at r0 r1 r2 r3 r4
     have hpj : allTo (fun j => !(decide (x.tgt = g.R.getD j 0) && !rlM j)) (j + 1) = !(decide (x.tgt = g.R.getD j 0) && !rlM j) := by
      show (allTo _ j && _) = _
      rw [HJ.out, Bool.true_and]
     have hpn : (!(decide (x.tgt = g.R.getD j 0) && !rlM j)) = false → P k = false := fun h => by rw [HPk.out]; exact allTo_no hjl h
     obtain ⟨y, hy⟩ : ∃ y, g.R.getD j 0 = y := ⟨_, rfl⟩
     obtain ⟨m9, hm9⟩ : ∃ m9, rlM j = m9 := ⟨_, rfl⟩
     rw [hy] at r1 hpj hpn
     rw [hm9] at r4 hpj hpn
     have HBK := Lib.hid hB
     have HPJ := Lib.hid hpj
     clear hy hm9 hpj
     by_cases h1 : x.tgt = y
     ·have e1 : (x.tgt == y) = true := by simp [h1]
      rw [decide_eq_true h1] at hpn
      have hpj2 := HPJ.out
      rw [decide_eq_true h1] at hpj2
      clear h1
      cases m9
      ·have HR := Lib.hid (HNo.out (hpn rfl))
       clear hpn hpj2
       go_wp2_with fail
       go_quiet (fail)
       have hB4 := below_drewN HBK.out nq
       generalize World.drewN _ nq = W8 at *
       go_wp2_with fail
       go_ret
       exact ⟨by rw [HR.out]; rfl, hB4⟩
      ·have HJ2 := Lib.hid (hpj2.trans rfl)
       clear hpn hpj2
       go_wp2_with fail
       go_quiet (fail)
       have hB4 := below_drewN HBK.out nq
       have HE4 := Lib.hid (HE.out.up (below_drewN (Below.refl _ _) nq))
       have HT4 := Lib.hid (HT.out.up (below_drewN (Below.refl _ _) nq))
       clear HE HT hB HBK c0 c1 c2 c3 c4 lt d0 d1 d2 r0 r1 r2 r3 r4
       generalize World.drewN _ nq = W8 at *
       go_wp2_with fail
       go_roundg (15 - (j + 1))
       case measure => omega
       case rel => exact ⟨j + 1, by go_num, by omega, by omega, HJ2, HE4, HT4, hB4⟩
     ·have e1 : (x.tgt == y) = false := by simp [h1]
      have hpj2 := HPJ.out
      rw [decide_eq_false h1] at hpj2
      have HJ2 := Lib.hid (hpj2.trans rfl)
      clear h1 hpn hpj2
      go_wp2_with fail
      go_quiet (fail)
      have hB4 := below_drewN HBK.out nq
      have HE4 := Lib.hid (HE.out.up (below_drewN (Below.refl _ _) nq))
      have HT4 := Lib.hid (HT.out.up (below_drewN (Below.refl _ _) nq))
      clear HE HT hB HBK c0 c1 c2 c3 c4 lt d0 d1 d2 r0 r1 r2 r3 r4
      generalize World.drewN _ nq = W8 at *
      go_wp2_with fail
      go_roundg (15 - (j + 1))
      case measure => omega
      case rel => exact ⟨j + 1, by go_num, by omega, by omega, HJ2, HE4, HT4, hB4⟩
    ·obtain rfl : j = 15 := by omega
     have HA2 : Hid (allTo P (k + 1) = true) := Lib.hid (by show (allTo P k && P k) = true; rw [HA.out, HPk.out, HJ.out]; rfl)
     go_wp2_with fail
     go_roundg (n - (k + 1))
     case measure => omega
     case rel => exact ⟨k + 1, by go_num, by omega, by omega, HA2, HE, HT, hB⟩
  ·obtain rfl : k = n := by omega
   have hltz : ¬ (k : Int) < (k : Int) := by omega
   have HR : Hid (r = true) := Lib.hid (by rw [HV2.out]; exact HA.out)
   go_wp2_with fail
   go_ret
   exact ⟨by rw [HR.out]; rfl, hB⟩
end Go.Proofs.YtaeccljkmijpaaaGreat
