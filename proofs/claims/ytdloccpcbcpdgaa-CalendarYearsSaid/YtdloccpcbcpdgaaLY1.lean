/- Contracts and the law of CalendarYears, part 1: what was proved of each, callees first. -/
import Derived.Deep.Draws
import Derived.Test.YtdloccpcbcpdgaaLK1
namespace Go.Proofs.Ytdloccpcbcpdgaa
open Go.RowKit
theorem rcheck7_any (y m k p : Int) (w : World) : Calls Try.prog 36 #[calV y m k, .int .i64 p] w fun e w' => e = .returned (.int .i64 (clE y m k p)) ∧ Below w.heap.size w w' := by
 obtain ⟨tn, bn⟩ := tri_new w 23 y m k
 have HT := Lib.hid tn
 obtain ⟨c0, c1, c2, lt⟩ := tn
 have h1 := fun w => rvalid7_any y m k w
 rcases clE_three y m k p with ⟨hv, he⟩ | ⟨hv, hp, he⟩ | ⟨hv, hp, he⟩
 ·rw [he]
  rw [hv] at h1
  have H1 := Lib.hid h1
  clear h1 hv he
  go_enter Try.func36, Try.ntmps36
  go_wp2_with (go_at_call 12; refine (H1.out _).mono ?_; rintro e w' ⟨rfl, hb⟩; replace bn := below_more bn hb; replace HT := Lib.hid (HT.out.up hb); clear c0 c1 c2 lt hb; obtain ⟨c0, c1, c2, lt⟩ := HT.out)
  go_ret
  exact ⟨rfl, bn⟩
 ·rw [he]
  rw [hv] at h1
  have H1 := Lib.hid h1
  clear h1 hv he
  by_cases h0 : p < 0
  ·skip
   go_enter Try.func36, Try.ntmps36
   go_wp2_with (go_at_call 12; refine (H1.out _).mono ?_; rintro e w' ⟨rfl, hb⟩; replace bn := below_more bn hb; replace HT := Lib.hid (HT.out.up hb); clear c0 c1 c2 lt hb; obtain ⟨c0, c1, c2, lt⟩ := HT.out)
   go_ret
   exact ⟨rfl, bn⟩
  ·have h0' : decide (p < 0) = false := decide_eq_false h0
   have h0'' : k ≤ p := by omega
   clear h0 hp
   go_enter Try.func36, Try.ntmps36
   go_wp2_with (go_at_call 12; refine (H1.out _).mono ?_; rintro e w' ⟨rfl, hb⟩; replace bn := below_more bn hb; replace HT := Lib.hid (HT.out.up hb); clear c0 c1 c2 lt hb; obtain ⟨c0, c1, c2, lt⟩ := HT.out)
   go_ret
   exact ⟨rfl, bn⟩
 ·rw [he]
  rw [hv] at h1
  have H1 := Lib.hid h1
  obtain ⟨p0, p1⟩ := hp
  have h0' : decide (p < 0) = false := decide_eq_false (by omega)
  have h0'' : decide (k ≤ p) = false := decide_eq_false (by omega)
  clear h1 hv he
  go_enter Try.func36, Try.ntmps36
  go_wp2_with (go_at_call 12; refine (H1.out _).mono ?_; rintro e w' ⟨rfl, hb⟩; replace bn := below_more bn hb; replace HT := Lib.hid (HT.out.up hb); clear c0 c1 c2 lt hb; obtain ⟨c0, c1, c2, lt⟩ := HT.out)
  go_ret
  exact ⟨rfl, bn⟩
theorem rfirst7_any (y m k p : Int) (w : World) : Calls Try.prog 16 #[calV y m k, .int .i64 p] w fun e w' => e = .returned (.tuple #[.int .i64 (pdF y m k p), .int .i64 (clE y m k p)]) ∧ Below w.heap.size w w' := by
 obtain ⟨tn, bn⟩ := tri_new w 23 y m k
 have HT := Lib.hid tn
 obtain ⟨c0, c1, c2, lt⟩ := tn
 have h1 := fun w => rcheck7_any y m k p w
 by_cases he : clE y m k p = 0
 ·obtain ⟨hv, hp⟩ := clE_yes he
  obtain ⟨-, e1, -⟩ := pd_in hv hp
  obtain ⟨a0, a1, a2⟩ := cl_month hv hp
  have h2 := fun w => rfi_any y m k p w
  unfold fiN fiE at h2
  rw [a2, if_pos rfl, if_pos rfl] at h2
  rw [e1, he]
  have H2 := Lib.hid h2
  clear h2 e1 a2
  rw [he] at h1
  have H1 := Lib.hid h1
  obtain ⟨p0, p1⟩ := hp
  obtain ⟨k0, k1⟩ := cl_k hv
  clear h1 he hv
  go_enter Try.func16, Try.ntmps16
  go_wp2_with (first | (go_at_call 36; refine (H1.out _).mono ?_; rintro e w' ⟨rfl, hb⟩; replace bn := below_more bn hb; replace HT := Lib.hid (HT.out.up hb); clear c0 c1 c2 lt hb; obtain ⟨c0, c1, c2, lt⟩ := HT.out) | (go_at_call 32; refine (H2.out _).mono ?_; rintro e w' ⟨rfl, hb⟩; replace bn := below_more bn hb; replace HT := Lib.hid (HT.out.up hb); clear c0 c1 c2 lt hb; obtain ⟨c0, c1, c2, lt⟩ := HT.out))
  go_ret2
  exact ⟨rfl, bn⟩
 ·obtain ⟨z1, z2, z3, z4, z5, z6, z7⟩ := pd_out he
  rw [z1]
  have hne : (clE y m k p != 0) = true := by simpa using he
  generalize clE y m k p = er at *
  have H1 := Lib.hid h1
  clear h1 he z1 z2 z3 z4 z5 z6 z7
  go_enter Try.func16, Try.ntmps16
  go_wp2_with (go_at_call 36; refine (H1.out _).mono ?_; rintro e w' ⟨rfl, hb⟩; replace bn := below_more bn hb; replace HT := Lib.hid (HT.out.up hb); clear c0 c1 c2 lt hb; obtain ⟨c0, c1, c2, lt⟩ := HT.out)
  go_ret2
  exact ⟨rfl, bn⟩
theorem ryear7_any (y m k p : Int) (w : World) : Calls Try.prog 22 #[calV y m k, .int .i64 p] w fun e w' => e = .returned (.tuple #[.int .i64 (pdY y m k p), .int .i64 (clE y m k p)]) ∧ Below w.heap.size w w' := by
 obtain ⟨tn, bn⟩ := tri_new w 23 y m k
 have HT := Lib.hid tn
 obtain ⟨c0, c1, c2, lt⟩ := tn
 have h1 := fun w => rcheck7_any y m k p w
 by_cases he : clE y m k p = 0
 ·obtain ⟨hv, hp⟩ := clE_yes he
  obtain ⟨-, -, -, e1, -⟩ := pd_in hv hp
  rw [e1, he]
  clear e1
  rw [he] at h1
  have H1 := Lib.hid h1
  obtain ⟨p0, p1⟩ := hp
  obtain ⟨k0, k1⟩ := cl_k hv
  clear h1 he hv
  go_enter Try.func22, Try.ntmps22
  go_wp2_with (go_at_call 36; refine (H1.out _).mono ?_; rintro e w' ⟨rfl, hb⟩; replace bn := below_more bn hb; replace HT := Lib.hid (HT.out.up hb); clear c0 c1 c2 lt hb; obtain ⟨c0, c1, c2, lt⟩ := HT.out)
  go_ret2
  exact ⟨rfl, bn⟩
 ·obtain ⟨z1, z2, z3, z4, z5, z6, z7⟩ := pd_out he
  rw [z3]
  have hne : (clE y m k p != 0) = true := by simpa using he
  generalize clE y m k p = er at *
  have H1 := Lib.hid h1
  clear h1 he z1 z2 z3 z4 z5 z6 z7
  go_enter Try.func22, Try.ntmps22
  go_wp2_with (go_at_call 36; refine (H1.out _).mono ?_; rintro e w' ⟨rfl, hb⟩; replace bn := below_more bn hb; replace HT := Lib.hid (HT.out.up hb); clear c0 c1 c2 lt hb; obtain ⟨c0, c1, c2, lt⟩ := HT.out)
  go_ret2
  exact ⟨rfl, bn⟩
theorem rbegin7_any (y m k p : Int) (w : World) : Calls Try.prog 24 #[calV y m k, .int .i64 p] w fun e w' => e = .returned (.tuple #[.int .i64 (pdB y m k p), .int .i64 (clE y m k p)]) ∧ Below w.heap.size w w' := by
 obtain ⟨tn, bn⟩ := tri_new w 23 y m k
 have HT := Lib.hid tn
 obtain ⟨c0, c1, c2, lt⟩ := tn
 have h1 := fun w => rcheck7_any y m k p w
 by_cases he : clE y m k p = 0
 ·obtain ⟨hv, hp⟩ := clE_yes he
  obtain ⟨-, -, -, -, e1⟩ := pd_in hv hp
  have h2 := fun w => rfirst7_any y m k (p - p % 12) w
  obtain ⟨f0, f1, -⟩ := pd_in hv (p := p - p % 12) (by omega)
  rw [f0, f1, show mno y m + (p - p % 12) = mno y m + p - p % 12 by omega] at h2
  rw [e1, he]
  have H2 := Lib.hid h2
  clear h2 e1 f0 f1
  rw [he] at h1
  have H1 := Lib.hid h1
  obtain ⟨p0, p1⟩ := hp
  obtain ⟨k0, k1⟩ := cl_k hv
  clear h1 he hv
  go_enter Try.func24, Try.ntmps24
  go_wp2_with (first | (go_at_call 36; refine (H1.out _).mono ?_; rintro e w' ⟨rfl, hb⟩; replace bn := below_more bn hb; replace HT := Lib.hid (HT.out.up hb); clear c0 c1 c2 lt hb; obtain ⟨c0, c1, c2, lt⟩ := HT.out) | (go_at_call 16; refine (H2.out _).mono ?_; rintro e w' ⟨rfl, hb⟩; replace bn := below_more bn hb; replace HT := Lib.hid (HT.out.up hb); clear c0 c1 c2 lt hb; obtain ⟨c0, c1, c2, lt⟩ := HT.out))
  go_ret2
  exact ⟨rfl, bn⟩
 ·obtain ⟨z1, z2, z3, z4, z5, z6, z7⟩ := pd_out he
  rw [z4]
  have hne : (clE y m k p != 0) = true := by simpa using he
  generalize clE y m k p = er at *
  have H1 := Lib.hid h1
  clear h1 he z1 z2 z3 z4 z5 z6 z7
  go_enter Try.func24, Try.ntmps24
  go_wp2_with (go_at_call 36; refine (H1.out _).mono ?_; rintro e w' ⟨rfl, hb⟩; replace bn := below_more bn hb; replace HT := Lib.hid (HT.out.up hb); clear c0 c1 c2 lt hb; obtain ⟨c0, c1, c2, lt⟩ := HT.out)
  go_ret2
  exact ⟨rfl, bn⟩
theorem rbefore7_any (y m k p : Int) (w : World) : Calls Try.prog 26 #[calV y m k, .int .i64 p] w fun e w' => e = .returned (.tuple #[.int .i64 (pdP y m k p), .int .i64 (pdPE y m k p)]) ∧ Below w.heap.size w w' := by
 obtain ⟨tn, bn⟩ := tri_new w 23 y m k
 have HT := Lib.hid tn
 obtain ⟨c0, c1, c2, lt⟩ := tn
 have h1 := fun w => rcheck7_any y m k p w
 by_cases he : clE y m k p = 0
 ·obtain ⟨hv, hp⟩ := clE_yes he
  unfold pdP pdPE
  rw [he]
  rw [he] at h1
  have H1 := Lib.hid h1
  obtain ⟨p0, p1⟩ := hp
  obtain ⟨k0, k1⟩ := cl_k hv
  clear h1 he hv
  by_cases h12 : p < 12
  ·rw [if_neg (by omega), if_pos rfl, if_pos h12]
   go_enter Try.func26, Try.ntmps26
   go_wp2_with (go_at_call 36; refine (H1.out _).mono ?_; rintro e w' ⟨rfl, hb⟩; replace bn := below_more bn hb; replace HT := Lib.hid (HT.out.up hb); clear c0 c1 c2 lt hb; obtain ⟨c0, c1, c2, lt⟩ := HT.out)
   go_ret2
   exact ⟨rfl, bn⟩
  ·rw [if_pos ⟨rfl, by omega⟩, if_pos rfl, if_neg h12]
   have h12' : 12 ≤ p := by omega
   clear h12
   go_enter Try.func26, Try.ntmps26
   go_wp2_with (go_at_call 36; refine (H1.out _).mono ?_; rintro e w' ⟨rfl, hb⟩; replace bn := below_more bn hb; replace HT := Lib.hid (HT.out.up hb); clear c0 c1 c2 lt hb; obtain ⟨c0, c1, c2, lt⟩ := HT.out)
   go_ret2
   exact ⟨rfl, bn⟩
 ·obtain ⟨z1, z2, z3, z4, z5, z6, z7⟩ := pd_out he
  rw [z5, z6]
  have hne : (clE y m k p != 0) = true := by simpa using he
  generalize clE y m k p = er at *
  have H1 := Lib.hid h1
  clear h1 he z1 z2 z3 z4 z5 z6 z7
  go_enter Try.func26, Try.ntmps26
  go_wp2_with (go_at_call 36; refine (H1.out _).mono ?_; rintro e w' ⟨rfl, hb⟩; replace bn := below_more bn hb; replace HT := Lib.hid (HT.out.up hb); clear c0 c1 c2 lt hb; obtain ⟨c0, c1, c2, lt⟩ := HT.out)
  go_ret2
  exact ⟨rfl, bn⟩
theorem law_cyears (y m k p : Int) (w : World) : Calls Try.prog 6 #[calV y m k, .int .i64 p] w fun e w' => e = .returned (.bool true) ∧ Below w.heap.size w w' := by
 obtain ⟨tn, bn⟩ := tri_new w 23 y m k
 have HT := Lib.hid tn
 obtain ⟨c0, c1, c2, lt⟩ := tn
 go_enter Try.func6, Try.ntmps6
 go_wp2_with (first | (go_at_call 10; refine (clawake_any _).mono ?_; rintro e w' ⟨rfl, hb⟩; replace bn := below_more bn hb; replace HT := Lib.hid (HT.out.up hb); clear c0 c1 c2 lt hb; obtain ⟨c0, c1, c2, lt⟩ := HT.out) | (go_at_call 21; refine (cyear7_any _ _ _ _ _).mono ?_; rintro e w' ⟨rfl, hb⟩; replace bn := below_more bn hb; replace HT := Lib.hid (HT.out.up hb); clear c0 c1 c2 lt hb; obtain ⟨c0, c1, c2, lt⟩ := HT.out) | (go_at_call 22; refine (ryear7_any _ _ _ _ _).mono ?_; rintro e w' ⟨rfl, hb⟩; replace bn := below_more bn hb; replace HT := Lib.hid (HT.out.up hb); clear c0 c1 c2 lt hb; obtain ⟨c0, c1, c2, lt⟩ := HT.out) | (go_at_call 23; refine (cbegin7_any _ _ _ _ _).mono ?_; rintro e w' ⟨rfl, hb⟩; replace bn := below_more bn hb; replace HT := Lib.hid (HT.out.up hb); clear c0 c1 c2 lt hb; obtain ⟨c0, c1, c2, lt⟩ := HT.out) | (go_at_call 24; refine (rbegin7_any _ _ _ _ _).mono ?_; rintro e w' ⟨rfl, hb⟩; replace bn := below_more bn hb; replace HT := Lib.hid (HT.out.up hb); clear c0 c1 c2 lt hb; obtain ⟨c0, c1, c2, lt⟩ := HT.out) | (go_at_call 25; refine (cbefore7_any _ _ _ _ _).mono ?_; rintro e w' ⟨rfl, hb⟩; replace bn := below_more bn hb; replace HT := Lib.hid (HT.out.up hb); clear c0 c1 c2 lt hb; obtain ⟨c0, c1, c2, lt⟩ := HT.out) | (go_at_call 26; refine (rbefore7_any _ _ _ _ _).mono ?_; rintro e w' ⟨rfl, hb⟩; replace bn := below_more bn hb; replace HT := Lib.hid (HT.out.up hb); clear c0 c1 c2 lt hb; obtain ⟨c0, c1, c2, lt⟩ := HT.out))
 go_ret
 exact ⟨rfl, bn⟩
end Go.Proofs.Ytdloccpcbcpdgaa
