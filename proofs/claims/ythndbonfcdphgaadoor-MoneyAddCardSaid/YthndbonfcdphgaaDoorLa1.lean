/- Contracts and the law of MoneyAdd, part 1: what was proved of each, callees first. -/
import Derived.Test.YthndbonfcdphgaaDoorL2
namespace Go.Proofs.YthndbonfcdphgaaDoor
theorem amtB_neg (n : Int) : amtB (-n) = amtB n := by
 unfold amtB
 rw [Bool.eq_iff_iff]
 simp only [Bool.and_eq_true, decide_eq_true_eq]
 omega
open Go.RowKit
def addE (a b : Int) : Int := if (amtB a && amtB b) = true then amE (a + b) else 1
def addV (a b : Int) : Int := if (amtB a && amtB b) = true then amV (a + b) else 0
theorem sum_two (a b : Int) : sumE [a, b] = addE a b ∧ sumV [a, b] = addV a b := by
 unfold sumE sumV addE addV
 simp
theorem add_comm (a b : Int) : addE b a = addE a b ∧ addV b a = addV a b := by
 unfold addE addV
 rw [Bool.and_comm, Int.add_comm]
 exact ⟨rfl, rfl⟩
theorem ints_two (w : World) (a b : Int) : IntsAt .i64 (w.alloc (.cells #[.int .i64 a, .int .i64 b] 3)) (some ⟨w.heap.size, 0, none⟩) [a, b] := fun _ => by
 refine ⟨w.heap.size, 0, rfl, by simp, fun i hi => ?_⟩
 match i, hi with
 | 0, _ => simp
 | 1, _ => simp
theorem madd_any (a b : Int) (w : World) : Calls Tryd.prog 15 #[.int .i64 a, .int .i64 b] w fun e w' => e = .returned (.tuple #[.int .i64 (addV a b), .int .i64 (addE a b)]) ∧ Below w.heap.size w w' := by
 have hS := msum_any (some ⟨w.heap.size, 0, none⟩) 2 [a, b] _ (ints_two w a b) (by simp)
 rw [(sum_two a b).1, (sum_two a b).2] at hS
 have HS := Lib.hid hS
 have hB : Below w.heap.size w (w.alloc (.cells #[.int .i64 a, .int .i64 b] 3)) := (Below.refl _ _).alloc (Nat.le_refl _) _
 clear hS
 go_enter Tryd.func15, Tryd.ntmps15
 go_wp2_with (go_at_call 17; refine (HS.out).mono ?_; rintro e w' ⟨rfl, hb⟩; replace hB := below_more hB hb; clear hb)
 go_ret2
 exact ⟨rfl, hB⟩
theorem rmadd_any (a b : Int) (w : World) : Calls Tryd.prog 30 #[.int .i64 a, .int .i64 b] w fun e w' => e = .returned (.tuple #[.int .i64 (addV a b), .int .i64 (addE a b)]) ∧ Below w.heap.size w w' := by
 have hS := rmsum_any (some ⟨w.heap.size, 0, none⟩) 2 [a, b] _ (ints_two w a b) (by simp)
 rw [(sum_two a b).1, (sum_two a b).2] at hS
 have HS := Lib.hid hS
 have hB : Below w.heap.size w (w.alloc (.cells #[.int .i64 a, .int .i64 b] 3)) := (Below.refl _ _).alloc (Nat.le_refl _) _
 clear hS
 go_enter Tryd.func30, Tryd.ntmps30
 go_wp2_with (go_at_call 33; refine (HS.out).mono ?_; rintro e w' ⟨rfl, hb⟩; replace hB := below_more hB hb; clear hb)
 go_ret2
 exact ⟨rfl, hB⟩
theorem addition_any (a b : Int) (w : World) : Calls Tryd.prog 16 #[.int .i64 a, .int .i64 b] w fun e w' => e = .returned (.tuple #[.int .i64 (addV a b), .int .i64 (addE a b)]) ∧ Below w.heap.size w w' := by
 have hB := Below.refl w.heap.size w
 have hV := fun w => rmvalid_any a w
 have hX := fun w => rmvalid_any b w
 have hR := fun w => rmadd_any a b w
 obtain ⟨V, hVV⟩ : ∃ V, addV a b = V := ⟨_, rfl⟩
 obtain ⟨E, hEE⟩ : ∃ E, addE a b = E := ⟨_, rfl⟩
 unfold addV at hVV
 unfold addE at hEE
 have hR' : ∀ w, Calls Tryd.prog 30 #[.int .i64 a, .int .i64 b] w fun e w' => e = .returned (.tuple #[.int .i64 V, .int .i64 E]) ∧ Below w.heap.size w w' := fun w => by rw [← hVV, ← hEE]; exact hR w
 show Calls _ _ _ _ fun e w' => e = .returned (.tuple #[.int .i64 (if (amtB a && amtB b) = true then amV (a + b) else 0), .int .i64 (if (amtB a && amtB b) = true then amE (a + b) else 1)]) ∧ _
 rw [hVV, hEE]
 clear hR
 cases h1 : amtB a
 ·rw [h1] at hV hVV hEE
  have HV := Lib.hid hV
  obtain rfl : V = 0 := hVV.symm
  obtain rfl : E = 1 := hEE.symm
  clear hV hX hR' hVV hEE
  go_enter Tryd.func16, Tryd.ntmps16
  go_wp2_with (go_at_call 14; refine (HV.out _).mono ?_; rintro e w' ⟨rfl, rfl⟩)
  go_ret2
  exact ⟨rfl, hB⟩
 ·cases h2 : amtB b
  ·rw [h1] at hV hVV hEE
   rw [h2] at hX hVV hEE
   have HV := Lib.hid hV
   have HX := Lib.hid hX
   obtain rfl : V = 0 := hVV.symm
   obtain rfl : E = 1 := hEE.symm
   clear hV hX hR' hVV hEE
   go_enter Tryd.func16, Tryd.ntmps16
   go_wp2_with (go_at_call 14; first | ((with_reducible refine (HV.out _).mono ?_); rintro e w' ⟨rfl, rfl⟩) | ((with_reducible refine (HX.out _).mono ?_); rintro e w' ⟨rfl, rfl⟩))
   go_ret2
   exact ⟨rfl, hB⟩
  ·rw [h1] at hV
   rw [h2] at hX
   have HV := Lib.hid hV
   have HX := Lib.hid hX
   have HR := Lib.hid hR'
   clear hV hX hR' hVV hEE h1 h2
   go_enter Tryd.func16, Tryd.ntmps16
   go_wp2_with (first | (go_at_call 14; first | ((with_reducible refine (HV.out _).mono ?_); rintro e w' ⟨rfl, rfl⟩) | ((with_reducible refine (HX.out _).mono ?_); rintro e w' ⟨rfl, rfl⟩)) | (go_at_call 30; refine (HR.out _).mono ?_; rintro e w' ⟨rfl, hb⟩; replace hB := below_more hB hb; clear hb))
   go_ret2
   exact ⟨rfl, hB⟩
theorem add_back {a b : Int} (h : addE a b = 0) : addV (addV a b) (-b) = a ∧ addE (addV a b) (-b) = 0 ∧ amtB b = true ∧ amtB (addV a b) = true := by
 unfold addE at h
 by_cases h1 : (amtB a && amtB b) = true
 ·rw [if_pos h1] at h
  simp only [Bool.and_eq_true] at h1
  have h3 : amtB (a + b) = true := by
   unfold amE at h
   by_cases k : amtB (a + b) = true
   ·exact k
   ·rw [if_neg k] at h; omega
  have hv : addV a b = a + b := by unfold addV amV; rw [h1.1, h1.2, h3]; rfl
  rw [hv]
  unfold addV addE amV amE
  rw [h3, amtB_neg, h1.2, show a + b + -b = a by omega, h1.1]
  exact ⟨rfl, rfl, rfl, rfl⟩
 ·rw [if_neg h1] at h; omega
set_option maxHeartbeats 1600000 in
theorem law_madd (a b : Int) (w : World) (ht : DTab w.heap.size w) : Calls Tryd.prog 3 #[.int .i64 a, .int .i64 b] w fun e w' => e = .returned (.bool true) ∧ Below w.heap.size w w' := by
 have HT := Lib.hid ht
 clear ht
 have hB := Below.refl w.heap.size w
 have hP := fun w => mvalid_any a w
 have hR := fun w => rmvalid_any a w
 have h1 := fun w => madd_any a b w
 have h2 := fun w => madd_any b a w
 have h3 := fun w => addition_any a b w
 have h4 := fun w => madd_any (addV a b) (-b) w
 rw [(add_comm a b).1, (add_comm a b).2] at h2
 have hbk := add_back (a := a) (b := b)
 by_cases hE : addE a b = 0
 ·obtain ⟨k1, k2, k3, k4⟩ := hbk hE
  obtain ⟨b1, b2⟩ := amtB_is k3
  rw [k1, k2] at h4
  rw [hE] at h1 h2 h3
  generalize addV a b = V at *
  generalize amtB a = va at *
  have H1 := Lib.hid h1
  have H2 := Lib.hid h2
  have H3 := Lib.hid h3
  have H4 := Lib.hid h4
  have HP := Lib.hid hP
  have HR := Lib.hid hR
  clear h1 h2 h3 h4 hbk hE k1 k2 k3 k4 hP hR
  go_enter Tryd.func3, Tryd.ntmps3
  go_wp2_with (first | (go_at_call 12; refine (mawake_any _ HT.out).mono ?_; rintro e w' ⟨rfl, hb⟩; replace hB := below_more hB hb; clear hb) | (go_at_call 13; refine (HP.out _).mono ?_; rintro e w' ⟨rfl, rfl⟩) | (go_at_call 14; refine (HR.out _).mono ?_; rintro e w' ⟨rfl, rfl⟩) | (go_at_call 15; first | ((with_reducible refine (H1.out _).mono ?_); rintro e w' ⟨rfl, hb⟩; replace hB := below_more hB hb; clear hb) | ((with_reducible refine (H2.out _).mono ?_); rintro e w' ⟨rfl, hb⟩; replace hB := below_more hB hb; clear hb) | ((with_reducible refine (H4.out _).mono ?_); rintro e w' ⟨rfl, hb⟩; replace hB := below_more hB hb; clear hb)) | (go_at_call 16; refine (H3.out _).mono ?_; rintro e w' ⟨rfl, hb⟩; replace hB := below_more hB hb; clear hb))
  go_ret
  exact ⟨rfl, hB⟩
 ·generalize addV a b = V at *
  generalize addE a b = E at *
  generalize amtB a = va at *
  have hne : (E != 0) = true := by simpa using hE
  have H1 := Lib.hid h1
  have H2 := Lib.hid h2
  have H3 := Lib.hid h3
  have HP := Lib.hid hP
  have HR := Lib.hid hR
  clear h1 h2 h3 h4 hbk hE hP hR
  go_enter Tryd.func3, Tryd.ntmps3
  go_wp2_with (first | (go_at_call 12; refine (mawake_any _ HT.out).mono ?_; rintro e w' ⟨rfl, hb⟩; replace hB := below_more hB hb; clear hb) | (go_at_call 13; refine (HP.out _).mono ?_; rintro e w' ⟨rfl, rfl⟩) | (go_at_call 14; refine (HR.out _).mono ?_; rintro e w' ⟨rfl, rfl⟩) | (go_at_call 15; first | ((with_reducible refine (H1.out _).mono ?_); rintro e w' ⟨rfl, hb⟩; replace hB := below_more hB hb; clear hb) | ((with_reducible refine (H2.out _).mono ?_); rintro e w' ⟨rfl, hb⟩; replace hB := below_more hB hb; clear hb)) | (go_at_call 16; refine (H3.out _).mono ?_; rintro e w' ⟨rfl, hb⟩; replace hB := below_more hB hb; clear hb))
  go_ret
  exact ⟨rfl, hB⟩
end Go.Proofs.YthndbonfcdphgaaDoor
