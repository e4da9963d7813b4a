/- Contracts and the law of CalendarBegins, part 1: what was proved of each, callees first. -/
import Derived.Test.YtdloccpcbcpdgaaProg
import Derived.WalkKit
import Derived.WalkSpells
import Derived.Lib.Hide
import Derived.Deep.QuietTactic
import Derived.BigQuiet
import Derived.Deep.Draws
import Derived.Laws.Rows
import Derived.Laws.CopyOwn
import Derived.Deep.OwnRows
import Derived.Outline
import Derived.Test.YtdloccpcbcpdgaaLK1
namespace Go.Proofs.Ytdloccpcbcpdgaa
open Go.RowKit
section
variable {k : IntKind} {t : TypeId} {w w' : World} {b o g B : Nat} {L : List Nat}
end
section
variable {k : IntKind} {t : TypeId} {w w' : World} {g B B' c : Nat} {A : Option Addr} {L : List Nat}
end
theorem below_drewN {B : Nat} {a w : World} (h : Below B a w) (n : Nat) : Below B a (w.drewN n) := ⟨h.os, h.tape, h.output, h.size, h.block⟩
theorem mfst_succ (T : Int) (h : 22800 ≤ T) : mfst (T + 1) = mfst T + mln T := by
 unfold mfst mln
 have s := mon_succ (T / 12) (T % 12 + 1) (by omega) (by omega)
 by_cases h1 : T % 12 = 11
 ·rw [show (T + 1) / 12 = T / 12 + 1 by omega, show (T + 1) % 12 + 1 = 1 by omega, mon_1, nyr_succ (T / 12) (by omega)]
  rw [show T % 12 + 1 + 1 = 13 by omega, mon_13] at s
  omega
 ·rw [show (T + 1) / 12 = T / 12 by omega, show (T + 1) % 12 + 1 = T % 12 + 1 + 1 by omega, s]
  omega
theorem mfst_step (S : Int) (k : Nat) (h : 22800 ≤ S) : mfst S + 28 * k ≤ mfst (S + k) := by
 induction k with
 | zero => simp
 | succ k ih =>
  have h1 := mfst_succ (S + k) (by omega)
  have h2 := mln_bd (S + k)
  rw [show S + ((k + 1 : Nat) : Int) = S + k + 1 by omega, h1]
  omega
theorem mfst_mono {S T : Int} (h : 22800 ≤ S) (h1 : S ≤ T) : mfst S + 28 * (T - S) ≤ mfst T := by
 have h2 := mfst_step S (T - S).toNat h
 have h3 : ((T - S).toNat : Int) = T - S := Int.toNat_of_nonneg (by omega)
 rw [h3, show S + (T - S) = T by omega] at h2
 exact h2
theorem mfst_0 : mfst 22800 = -25567 := by decide
theorem mfst_end : mfst 26400 = 84006 := by decide
theorem mfst_bd {T : Int} (h : 22800 ≤ T) (h1 : T ≤ 26400) : -25567 ≤ mfst T ∧ mfst T ≤ 84006 := by
 have a := mfst_mono (Int.le_refl 22800) h
 have b := mfst_mono h h1
 rw [mfst_0] at a
 rw [mfst_end] at b
 omega
open Go.RowKit
theorem clast7_any (y m k p : Int) (w : World) : Calls Try.prog 17 #[calV y m k, .int .i64 p] w fun e w' => e = .returned (.tuple #[.int .i64 (pdL y m k p), .int .i64 (clE y m k p)]) ∧ Below w.heap.size w w' := by
 obtain ⟨tn, bn⟩ := tri_new w 23 y m k
 have HT := Lib.hid tn
 obtain ⟨c0, c1, c2, lt⟩ := tn
 have h1 := fun w => ccheck7_any y m k p w
 by_cases he : clE y m k p = 0
 ·obtain ⟨hv, hp⟩ := clE_yes he
  obtain ⟨-, -, e2, -⟩ := pd_in hv hp
  obtain ⟨a0, a1, a2⟩ := cl_month hv hp
  obtain ⟨ym, -⟩ := (clV_iff.1 hv).2
  obtain ⟨k0, k1⟩ := cl_k hv
  have h2 := fun w => cmon7_any y m k p w ym (by omega)
  have h3 := fun w => cciv7_any (mno y m + p) w (by omega)
  have hm := mln_bd (mno y m + p)
  obtain ⟨o1, o2⟩ := of_civ (mfst_civ (d := mln (mno y m + p)) a0 a1 (by omega) (Int.le_refl _))
  have h4 := fun w => dtof_any ((mno y m + p) / 12) ((mno y m + p) % 12 + 1) (mln (mno y m + p)) w
  have h5 := fun w => days_any ((mno y m + p) / 12) ((mno y m + p) % 12 + 1) w
  have hc := mfst_one a0 a1
  rw [dys_in (inYM_iff.2 ⟨hc.y0, hc.y1, hc.m0, hc.m1⟩), show mdy ((mno y m + p) / 12) ((mno y m + p) % 12 + 1) = mln (mno y m + p) from rfl] at h5
  rw [o1, o2] at h4
  rw [e2, he, mfst_succ _ a0]
  rw [he] at h1
  have H1 := Lib.hid h1
  have H2 := Lib.hid h2
  have H3 := Lib.hid h3
  have H4 := Lib.hid h4
  have H5 := Lib.hid h5
  clear h1 h2 h3 h4 h5 e2 a0 a1 a2 ym o1 o2 he hv hp hc hm
  generalize mfst (mno y m + p) + mln (mno y m + p) - 1 = F at *
  generalize mln (mno y m + p) = M at *
  generalize mno y m + p = T at *
  generalize T % 12 + 1 = b2 at *
  generalize T / 12 = a2 at *
  go_enter Try.func17, Try.ntmps17
  go_wp2_with (first | (go_at_call 34; refine (H1.out _).mono ?_; rintro e w' ⟨rfl, hb⟩; replace bn := below_more bn hb; replace HT := Lib.hid (HT.out.up hb); clear c0 c1 c2 lt hb; obtain ⟨c0, c1, c2, lt⟩ := HT.out) | (go_at_call 31; refine (H2.out _).mono ?_; rintro e w' ⟨rfl, hb⟩; replace bn := below_more bn hb; replace HT := Lib.hid (HT.out.up hb); clear c0 c1 c2 lt hb; obtain ⟨c0, c1, c2, lt⟩ := HT.out) | (go_at_call 30; refine (H3.out _).mono ?_; rintro e w' ⟨rfl, rfl⟩) | (go_at_call 29; refine (H5.out _).mono ?_; rintro e w' ⟨rfl, hb⟩; replace bn := below_more bn hb; replace HT := Lib.hid (HT.out.up hb); clear c0 c1 c2 lt hb; obtain ⟨c0, c1, c2, lt⟩ := HT.out) | (go_at_call 35; refine (H4.out _).mono ?_; rintro e w' ⟨rfl, hb⟩; replace bn := below_more bn hb; replace HT := Lib.hid (HT.out.up hb); clear c0 c1 c2 lt hb; obtain ⟨c0, c1, c2, lt⟩ := HT.out))
  go_ret2
  exact ⟨rfl, bn⟩
 ·obtain ⟨z1, z2, z3, z4, z5, z6, z7⟩ := pd_out he
  rw [z2]
  have hne : (clE y m k p != 0) = true := by simpa using he
  generalize clE y m k p = er at *
  have H1 := Lib.hid h1
  clear h1 he z1 z2 z3 z4 z5 z6 z7
  go_enter Try.func17, Try.ntmps17
  go_wp2_with (go_at_call 34; refine (H1.out _).mono ?_; rintro e w' ⟨rfl, hb⟩; replace bn := below_more bn hb; replace HT := Lib.hid (HT.out.up hb); clear c0 c1 c2 lt hb; obtain ⟨c0, c1, c2, lt⟩ := HT.out)
  go_ret2
  exact ⟨rfl, bn⟩
theorem mfst_inj {S T : Int} (hS : 22800 ≤ S) (hT : 22800 ≤ T) (h : mfst S = mfst T) : S = T := by
 rcases Int.lt_trichotomy S T with hl | hl | hl
 ·have := mfst_mono hS (Int.le_of_lt hl); omega
 ·exact hl
 ·have := mfst_mono hT (Int.le_of_lt hl); omega
theorem year_same {T i j : Int} (hT : 22800 ≤ T) (hi : 0 ≤ i) (hj : 0 ≤ j) : (mfst (T + i - i % 12) == mfst (T + j - j % 12)) = (i / 12 == j / 12) := by
 rw [Bool.eq_iff_iff, beq_iff_eq, beq_iff_eq]
 constructor
 ·intro h
  have := mfst_inj (by omega) (by omega) h
  omega
 ·intro h
  rw [show T + i - i % 12 = T + j - j % 12 by omega]
set_option maxRecDepth 20000 in
set_option maxHeartbeats 3200000 in
theorem law_cbegins (y m k a b : Int) (w : World) (ha : 0 ≤ a ∧ a ≤ 255) (hb : 0 ≤ b ∧ b ≤ 255) : Calls Try.prog 8 #[calV y m k, .int .u8 a, .int .u8 b] w fun e w' => e = .returned (.bool true) ∧ Below w.heap.size w w' := by
 obtain ⟨tn, bn⟩ := tri_new w 23 y m k
 have HT := Lib.hid tn
 obtain ⟨c0, c1, c2, lt⟩ := tn
 obtain ⟨a0, a1⟩ := ha
 obtain ⟨b0, b1⟩ := hb
 have hv := fun w => rvalid7_any y m k w
 cases hc : clV y m k
 ·rw [hc] at hv
  have HV := Lib.hid hv
  clear hv hc
  go_enter Try.func8, Try.ntmps8
  go_wp2_with (first | (go_at_call 10; refine (clawake_any _).mono ?_; rintro e w' ⟨rfl, hb⟩; replace bn := below_more bn hb; replace HT := Lib.hid (HT.out.up hb); clear c0 c1 c2 lt hb; obtain ⟨c0, c1, c2, lt⟩ := HT.out) | (go_at_call 12; refine (HV.out _).mono ?_; rintro e w' ⟨rfl, hb⟩; replace bn := below_more bn hb; replace HT := Lib.hid (HT.out.up hb); clear c0 c1 c2 lt hb; obtain ⟨c0, c1, c2, lt⟩ := HT.out))
  go_ret
  exact ⟨rfl, bn⟩
 ·rw [hc] at hv
  have HV := Lib.hid hv
  obtain ⟨k0, k1⟩ := cl_k hc
  have hT : 22800 ≤ mno y m := by have := (cl_month hc (p := 0) ⟨by omega, by omega⟩).1; omega
  have hTk : mno y m + k ≤ 26400 := (clV_iff.1 hc).2.2
  obtain ⟨i, hi⟩ : ∃ i, a.tmod k = i := ⟨_, rfl⟩
  obtain ⟨j, hj⟩ : ∃ j, b.tmod k = j := ⟨_, rfl⟩
  have hi2 : 0 ≤ i ∧ i < k := by
   rw [← hi, Int.tmod_eq_emod_of_nonneg a0]
   exact ⟨Int.emod_nonneg _ (by omega), Int.emod_lt_of_pos _ (by omega)⟩
  have hj2 : 0 ≤ j ∧ j < k := by
   rw [← hj, Int.tmod_eq_emod_of_nonneg b0]
   exact ⟨Int.emod_nonneg _ (by omega), Int.emod_lt_of_pos _ (by omega)⟩
  obtain ⟨e0, e1, -, e2, e3⟩ := pd_in hc hi2
  obtain ⟨g0, -, -, g2, g3⟩ := pd_in hc hj2
  have h1 := fun w => cyear7_any y m k i w
  rw [e0, e2] at h1
  have h2 := fun w => cyear7_any y m k j w
  rw [g0, g2] at h2
  have h3 := fun w => cbegin7_any y m k i w
  rw [e0, e3] at h3
  have h4 := fun w => cbegin7_any y m k j w
  rw [g0, g3] at h4
  have h5 := fun w => cfirst7_any y m k i w
  rw [e0, e1] at h5
  have h6 := fun w => cbefore7_any y m k i w
  unfold pdP pdPE at h6
  rw [e0] at h6
  have hsame := year_same hT hi2.1 hj2.1
  have hfx : decide (mfst (mno y m + i) < mfst (mno y m + i - i % 12)) = false := by
   have := mfst_mono (S := mno y m + i - i % 12) (T := mno y m + i) (by omega) (by omega)
   exact decide_eq_false (by omega)
  have hX := mfst_bd (T := mno y m + i - i % 12) (by omega) (by omega)
  have h7 := fun w => clast7_any y m k (i - i % 12 - 1) w
  have hlast : 12 ≤ i → clE y m k (i - i % 12 - 1) = 0 ∧ pdL y m k (i - i % 12 - 1) = mfst (mno y m + i - i % 12) - 1 := fun h12 => by
   obtain ⟨q0, -, q2, -⟩ := pd_in hc (p := i - i % 12 - 1) (by omega)
   rw [q0, q2, show mno y m + (i - i % 12 - 1) + 1 = mno y m + i - i % 12 by omega]
   exact ⟨rfl, rfl⟩
  have hd : 0 ≤ i - 12 * (i / 12) ∧ i - 12 * (i / 12) ≤ 11 := by omega
  have hA : 0 ≤ i / 12 ∧ i / 12 ≤ 10 := by omega
  have hA0 : i < 12 → i / 12 = 0 := by omega
  have hA1 : 12 ≤ i → 0 < i / 12 := by omega
  obtain ⟨i0, i1⟩ := hi2
  generalize mfst (mno y m + i - i % 12) = X at *
  generalize mfst (mno y m + j - j % 12) = Y at *
  generalize mfst (mno y m + i) = F at *
  generalize i / 12 = A at *
  generalize j / 12 = B at *
  generalize clE y m k (i - i % 12 - 1) = q1 at *
  generalize pdL y m k (i - i % 12 - 1) = q2 at *
  generalize i - i % 12 - 1 = N at *
  obtain ⟨d0, d1⟩ := hd
  obtain ⟨A0, A1⟩ := hA
  have d2 : decide (i - 12 * A < 0) = false := decide_eq_false (by omega)
  have d3 : decide (11 < i - 12 * A) = false := decide_eq_false (by omega)
  have hk0 : ¬ k = 0 := by omega
  have H1 := Lib.hid h1
  have H2 := Lib.hid h2
  have H3 := Lib.hid h3
  have H4 := Lib.hid h4
  have H5 := Lib.hid h5
  cases hs : (A == B)
  all_goals
   rw [hs] at hsame
   by_cases h12 : i < 12
   ·rw [if_neg (by omega), if_pos rfl, if_pos h12] at h6
    obtain rfl := hA0 h12
    have H6 := Lib.hid h6
    clear h1 h2 h3 h4 h5 h6 h7 hlast hA0 hA1 hv hc e0 e1 e2 e3 g0 g2 g3 h12
    go_enter Try.func8, Try.ntmps8
    go_wp2_with (first | (go_at_call 10; refine (clawake_any _).mono ?_; rintro e w' ⟨rfl, hb⟩; replace bn := below_more bn hb; replace HT := Lib.hid (HT.out.up hb); clear c0 c1 c2 lt hb; obtain ⟨c0, c1, c2, lt⟩ := HT.out) | (go_at_call 12; refine (HV.out _).mono ?_; rintro e w' ⟨rfl, hb⟩; replace bn := below_more bn hb; replace HT := Lib.hid (HT.out.up hb); clear c0 c1 c2 lt hb; obtain ⟨c0, c1, c2, lt⟩ := HT.out))
    go_quiet (fail)
    replace bn := below_drewN bn nq
    replace HT := Lib.hid (HT.out.up (below_drewN (Below.refl _ _) nq))
    clear c0 c1 c2 lt hi hj
    obtain ⟨c0, c1, c2, lt⟩ := HT.out
    generalize w'.drewN nq = w3 at *
    go_wp2_with (first | (go_at_call 21; first | ((with_reducible refine (H1.out _).mono ?_); rintro e w' ⟨rfl, hb⟩; replace bn := below_more bn hb; replace HT := Lib.hid (HT.out.up hb); clear c0 c1 c2 lt hb; obtain ⟨c0, c1, c2, lt⟩ := HT.out) | ((with_reducible refine (H2.out _).mono ?_); rintro e w' ⟨rfl, hb⟩; replace bn := below_more bn hb; replace HT := Lib.hid (HT.out.up hb); clear c0 c1 c2 lt hb; obtain ⟨c0, c1, c2, lt⟩ := HT.out)) | (go_at_call 23; first | ((with_reducible refine (H3.out _).mono ?_); rintro e w' ⟨rfl, hb⟩; replace bn := below_more bn hb; replace HT := Lib.hid (HT.out.up hb); clear c0 c1 c2 lt hb; obtain ⟨c0, c1, c2, lt⟩ := HT.out) | ((with_reducible refine (H4.out _).mono ?_); rintro e w' ⟨rfl, hb⟩; replace bn := below_more bn hb; replace HT := Lib.hid (HT.out.up hb); clear c0 c1 c2 lt hb; obtain ⟨c0, c1, c2, lt⟩ := HT.out)) | (go_at_call 15; refine (H5.out _).mono ?_; rintro e w' ⟨rfl, hb⟩; replace bn := below_more bn hb; replace HT := Lib.hid (HT.out.up hb); clear c0 c1 c2 lt hb; obtain ⟨c0, c1, c2, lt⟩ := HT.out) | (go_at_call 25; refine (H6.out _).mono ?_; rintro e w' ⟨rfl, hb⟩; replace bn := below_more bn hb; replace HT := Lib.hid (HT.out.up hb); clear c0 c1 c2 lt hb; obtain ⟨c0, c1, c2, lt⟩ := HT.out) | (go_at_call 17; refine (H7.out _).mono ?_; rintro e w' ⟨rfl, hb⟩; replace bn := below_more bn hb; replace HT := Lib.hid (HT.out.up hb); clear c0 c1 c2 lt hb; obtain ⟨c0, c1, c2, lt⟩ := HT.out))
    go_ret
    exact ⟨dret_bool (by simp), bn⟩
   ·rw [if_pos ⟨rfl, by omega⟩, if_pos rfl, if_neg h12] at h6
    obtain ⟨l1, l2⟩ := hlast (by omega)
    rw [l1, l2] at h7
    have hA2 := hA1 (by omega)
    have h12' : 12 ≤ i := by omega
    have H6 := Lib.hid h6
    have H7 := Lib.hid h7
    clear h1 h2 h3 h4 h5 h6 h7 hlast hA0 hA1 hv hc e0 e1 e2 e3 g0 g2 g3 h12 l1 l2
    go_enter Try.func8, Try.ntmps8
    go_wp2_with (first | (go_at_call 10; refine (clawake_any _).mono ?_; rintro e w' ⟨rfl, hb⟩; replace bn := below_more bn hb; replace HT := Lib.hid (HT.out.up hb); clear c0 c1 c2 lt hb; obtain ⟨c0, c1, c2, lt⟩ := HT.out) | (go_at_call 12; refine (HV.out _).mono ?_; rintro e w' ⟨rfl, hb⟩; replace bn := below_more bn hb; replace HT := Lib.hid (HT.out.up hb); clear c0 c1 c2 lt hb; obtain ⟨c0, c1, c2, lt⟩ := HT.out))
    go_quiet (fail)
    replace bn := below_drewN bn nq
    replace HT := Lib.hid (HT.out.up (below_drewN (Below.refl _ _) nq))
    clear c0 c1 c2 lt hi hj
    obtain ⟨c0, c1, c2, lt⟩ := HT.out
    generalize w'.drewN nq = w3 at *
    go_wp2_with (first | (go_at_call 21; first | ((with_reducible refine (H1.out _).mono ?_); rintro e w' ⟨rfl, hb⟩; replace bn := below_more bn hb; replace HT := Lib.hid (HT.out.up hb); clear c0 c1 c2 lt hb; obtain ⟨c0, c1, c2, lt⟩ := HT.out) | ((with_reducible refine (H2.out _).mono ?_); rintro e w' ⟨rfl, hb⟩; replace bn := below_more bn hb; replace HT := Lib.hid (HT.out.up hb); clear c0 c1 c2 lt hb; obtain ⟨c0, c1, c2, lt⟩ := HT.out)) | (go_at_call 23; first | ((with_reducible refine (H3.out _).mono ?_); rintro e w' ⟨rfl, hb⟩; replace bn := below_more bn hb; replace HT := Lib.hid (HT.out.up hb); clear c0 c1 c2 lt hb; obtain ⟨c0, c1, c2, lt⟩ := HT.out) | ((with_reducible refine (H4.out _).mono ?_); rintro e w' ⟨rfl, hb⟩; replace bn := below_more bn hb; replace HT := Lib.hid (HT.out.up hb); clear c0 c1 c2 lt hb; obtain ⟨c0, c1, c2, lt⟩ := HT.out)) | (go_at_call 15; refine (H5.out _).mono ?_; rintro e w' ⟨rfl, hb⟩; replace bn := below_more bn hb; replace HT := Lib.hid (HT.out.up hb); clear c0 c1 c2 lt hb; obtain ⟨c0, c1, c2, lt⟩ := HT.out) | (go_at_call 25; refine (H6.out _).mono ?_; rintro e w' ⟨rfl, hb⟩; replace bn := below_more bn hb; replace HT := Lib.hid (HT.out.up hb); clear c0 c1 c2 lt hb; obtain ⟨c0, c1, c2, lt⟩ := HT.out) | (go_at_call 17; refine (H7.out _).mono ?_; rintro e w' ⟨rfl, hb⟩; replace bn := below_more bn hb; replace HT := Lib.hid (HT.out.up hb); clear c0 c1 c2 lt hb; obtain ⟨c0, c1, c2, lt⟩ := HT.out))
    go_ret
    exact ⟨dret_bool (by simp), bn⟩
end Go.Proofs.Ytdloccpcbcpdgaa
