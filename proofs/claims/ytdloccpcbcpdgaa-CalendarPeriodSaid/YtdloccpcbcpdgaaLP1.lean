/- Contracts and the law of CalendarPeriod, part 1: what was proved of each, callees first. -/
import Derived.Deep.Draws
import Derived.Test.YtdloccpcbcpdgaaLK1
namespace Go.Proofs.Ytdloccpcbcpdgaa
theorem mfst_succ (T : Int) (h : 22800 ≤ T) : mfst (T + 1) = mfst T + mln T := by
 unfold mfst mln
 have s := mon_succ (T / 12) (T % 12 + 1) (by omega) (by omega)
 by_cases h1 : T % 12 = 11
 ·rw [show (T + 1) / 12 = T / 12 + 1 by omega, show (T + 1) % 12 + 1 = 1 by omega, mon_1, nyr_succ (T / 12) (by omega)]
  rw [show T % 12 + 1 + 1 = 13 by omega, mon_13] at s
  omega
 ·rw [show (T + 1) / 12 = T / 12 by omega, show (T + 1) % 12 + 1 = T % 12 + 1 + 1 by omega, s]
  omega
theorem mfst_step (S : Int) (k : Nat) (h : 22800 ≤ S) : mfst S + 28 * k ≤ mfst (S + k) := by
 induction k with
 | zero => simp
 | succ k ih =>
  have h1 := mfst_succ (S + k) (by omega)
  have h2 := mln_bd (S + k)
  rw [show S + ((k + 1 : Nat) : Int) = S + k + 1 by omega, h1]
  omega
theorem mfst_mono {S T : Int} (h : 22800 ≤ S) (h1 : S ≤ T) : mfst S + 28 * (T - S) ≤ mfst T := by
 have h2 := mfst_step S (T - S).toNat h
 have h3 : ((T - S).toNat : Int) = T - S := Int.toNat_of_nonneg (by omega)
 rw [h3, show S + (T - S) = T by omega] at h2
 exact h2
theorem mfst_0 : mfst 22800 = -25567 := by decide
theorem mfst_end : mfst 26400 = 84006 := by decide
theorem mfst_bd {T : Int} (h : 22800 ≤ T) (h1 : T ≤ 26400) : -25567 ≤ mfst T ∧ mfst T ≤ 84006 := by
 have a := mfst_mono (Int.le_refl 22800) h
 have b := mfst_mono h h1
 rw [mfst_0] at a
 rw [mfst_end] at b
 omega
def mth (n : Int) : Int := mno (civY n) (civM n)
theorem mth_is {n : Int} (h : vdB n = true) : 22800 ≤ mth n ∧ mth n ≤ 26399 ∧ mfst (mth n) ≤ n ∧ n < mfst (mth n + 1) := by
 have hc := civ_is h
 have y0 := hc.y0
 have y1 := hc.y1
 have m0 := hc.m0
 have m1 := hc.m1
 have d0 := hc.d0
 have d1 := hc.d1
 have e : mth n = 12 * civY n + civM n - 1 := rfl
 have e1 : mth n / 12 = civY n := by omega
 have e2 : mth n % 12 + 1 = civM n := by omega
 have s := mfst_succ (mth n) (by omega)
 have f : mfst (mth n) = nyr (civY n) + mon (civY n) (civM n) := by unfold mfst; rw [e1, e2]
 have g : mln (mth n) = mdy (civY n) (civM n) := by unfold mln; rw [e1, e2]
 have q := hc.eq
 unfold dno at q
 refine ⟨by omega, by omega, by omega, by omega⟩
theorem mth_uniq {n T : Int} (h : vdB n = true) (h0 : 22800 ≤ T) (h1 : mfst T ≤ n) (h2 : n < mfst (T + 1)) : T = mth n := by
 obtain ⟨a, b, c, d⟩ := mth_is h
 rcases Int.lt_trichotomy T (mth n) with hl | hl | hl
 ·have := mfst_mono (S := T + 1) (T := mth n) (by omega) (by omega); omega
 ·exact hl
 ·have := mfst_mono (S := mth n + 1) (T := T) (by omega) (by omega); omega
/- The first day of a month that lies p months after another one. -/
def inP (y m k n : Int) : Bool := vdB n && (decide (0 ≤ mth n - mno y m) && decide (mth n - mno y m < k))
def prE (y m k n : Int) : Int := if clV y m k then (if inP y m k n then 0 else 2) else 1
def prN (y m k n : Int) : Int := if clV y m k && inP y m k n then mth n - mno y m else 0
theorem inP_iff {y m k n : Int} : inP y m k n = true ↔ vdB n = true ∧ 0 ≤ mth n - mno y m ∧ mth n - mno y m < k := by
 unfold inP
 rw [Bool.and_eq_true, Bool.and_eq_true, decide_eq_true_eq, decide_eq_true_eq]
theorem per_in {y m k p n : Int} (h : clV y m k = true) (hp : 0 ≤ p ∧ p < k) (h1 : mfst (mno y m + p) ≤ n) (h2 : n < mfst (mno y m + p + 1)) : inP y m k n = true ∧ mth n - mno y m = p := by
 obtain ⟨a, b, -⟩ := cl_month h hp
 have b1 := mfst_bd (T := mno y m + p) a (by omega)
 have b2 := mfst_bd (T := mno y m + p + 1) (by omega) (by omega)
 have hv : vdB n = true := vdB_iff.2 ⟨by omega, by omega⟩
 have e := mth_uniq hv a h1 h2
 exact ⟨inP_iff.2 ⟨hv, by omega, by omega⟩, by omega⟩
theorem per_at {y m k n : Int} (h : inP y m k n = true) : (0 ≤ mth n - mno y m ∧ mth n - mno y m < k) ∧ mfst (mno y m + (mth n - mno y m)) ≤ n ∧ n < mfst (mno y m + (mth n - mno y m) + 1) := by
 obtain ⟨hv, a, b⟩ := inP_iff.1 h
 obtain ⟨-, -, c, d⟩ := mth_is hv
 rw [show mno y m + (mth n - mno y m) = mth n by omega]
 exact ⟨⟨a, b⟩, c, d⟩
open Go.RowKit
theorem pr_bad {y m k : Int} (n : Int) (h : clV y m k = false) : prN y m k n = 0 ∧ prE y m k n = 1 := by
 unfold prN prE
 rw [h]
 exact ⟨rfl, rfl⟩
theorem pr_no {y m k n : Int} (h : clV y m k = true) (hi : inP y m k n = false) : prN y m k n = 0 ∧ prE y m k n = 2 := by
 unfold prN prE
 rw [h, hi]
 exact ⟨rfl, rfl⟩
theorem pr_yes {y m k n : Int} (h : clV y m k = true) (hi : inP y m k n = true) : prN y m k n = mth n - mno y m ∧ prE y m k n = 0 := by
 unfold prN prE
 rw [h, hi]
 exact ⟨rfl, rfl⟩
theorem pr_in {y m k p n : Int} (h : clV y m k = true) (hp : 0 ≤ p ∧ p < k) (h1 : mfst (mno y m + p) ≤ n) (h2 : n < mfst (mno y m + p + 1)) : prN y m k n = p ∧ prE y m k n = 0 := by
 obtain ⟨r1, r2⟩ := per_in h hp h1 h2
 rw [(pr_yes h r1).1, (pr_yes h r1).2]
 exact ⟨r2, rfl⟩
theorem rcheck7_any (y m k p : Int) (w : World) : Calls Try.prog 36 #[calV y m k, .int .i64 p] w fun e w' => e = .returned (.int .i64 (clE y m k p)) ∧ Below w.heap.size w w' := by
 obtain ⟨tn, bn⟩ := tri_new w 23 y m k
 have HT := Lib.hid tn
 obtain ⟨c0, c1, c2, lt⟩ := tn
 have h1 := fun w => rvalid7_any y m k w
 rcases clE_three y m k p with ⟨hv, he⟩ | ⟨hv, hp, he⟩ | ⟨hv, hp, he⟩
 ·rw [he]
  rw [hv] at h1
  have H1 := Lib.hid h1
  clear h1 hv he
  go_enter Try.func36, Try.ntmps36
  go_wp2_with (go_at_call 12; refine (H1.out _).mono ?_; rintro e w' ⟨rfl, hb⟩; replace bn := below_more bn hb; replace HT := Lib.hid (HT.out.up hb); clear c0 c1 c2 lt hb; obtain ⟨c0, c1, c2, lt⟩ := HT.out)
  go_ret
  exact ⟨rfl, bn⟩
 ·rw [he]
  rw [hv] at h1
  have H1 := Lib.hid h1
  clear h1 hv he
  by_cases h0 : p < 0
  ·skip
   go_enter Try.func36, Try.ntmps36
   go_wp2_with (go_at_call 12; refine (H1.out _).mono ?_; rintro e w' ⟨rfl, hb⟩; replace bn := below_more bn hb; replace HT := Lib.hid (HT.out.up hb); clear c0 c1 c2 lt hb; obtain ⟨c0, c1, c2, lt⟩ := HT.out)
   go_ret
   exact ⟨rfl, bn⟩
  ·have h0' : decide (p < 0) = false := decide_eq_false h0
   have h0'' : k ≤ p := by omega
   clear h0 hp
   go_enter Try.func36, Try.ntmps36
   go_wp2_with (go_at_call 12; refine (H1.out _).mono ?_; rintro e w' ⟨rfl, hb⟩; replace bn := below_more bn hb; replace HT := Lib.hid (HT.out.up hb); clear c0 c1 c2 lt hb; obtain ⟨c0, c1, c2, lt⟩ := HT.out)
   go_ret
   exact ⟨rfl, bn⟩
 ·rw [he]
  rw [hv] at h1
  have H1 := Lib.hid h1
  obtain ⟨p0, p1⟩ := hp
  have h0' : decide (p < 0) = false := decide_eq_false (by omega)
  have h0'' : decide (k ≤ p) = false := decide_eq_false (by omega)
  clear h1 hv he
  go_enter Try.func36, Try.ntmps36
  go_wp2_with (go_at_call 12; refine (H1.out _).mono ?_; rintro e w' ⟨rfl, hb⟩; replace bn := below_more bn hb; replace HT := Lib.hid (HT.out.up hb); clear c0 c1 c2 lt hb; obtain ⟨c0, c1, c2, lt⟩ := HT.out)
  go_ret
  exact ⟨rfl, bn⟩
theorem rfirst7_any (y m k p : Int) (w : World) : Calls Try.prog 16 #[calV y m k, .int .i64 p] w fun e w' => e = .returned (.tuple #[.int .i64 (pdF y m k p), .int .i64 (clE y m k p)]) ∧ Below w.heap.size w w' := by
 obtain ⟨tn, bn⟩ := tri_new w 23 y m k
 have HT := Lib.hid tn
 obtain ⟨c0, c1, c2, lt⟩ := tn
 have h1 := fun w => rcheck7_any y m k p w
 by_cases he : clE y m k p = 0
 ·obtain ⟨hv, hp⟩ := clE_yes he
  obtain ⟨-, e1, -⟩ := pd_in hv hp
  obtain ⟨a0, a1, a2⟩ := cl_month hv hp
  have h2 := fun w => rfi_any y m k p w
  unfold fiN fiE at h2
  rw [a2, if_pos rfl, if_pos rfl] at h2
  rw [e1, he]
  have H2 := Lib.hid h2
  clear h2 e1 a2
  rw [he] at h1
  have H1 := Lib.hid h1
  obtain ⟨p0, p1⟩ := hp
  obtain ⟨k0, k1⟩ := cl_k hv
  clear h1 he hv
  go_enter Try.func16, Try.ntmps16
  go_wp2_with (first | (go_at_call 36; refine (H1.out _).mono ?_; rintro e w' ⟨rfl, hb⟩; replace bn := below_more bn hb; replace HT := Lib.hid (HT.out.up hb); clear c0 c1 c2 lt hb; obtain ⟨c0, c1, c2, lt⟩ := HT.out) | (go_at_call 32; refine (H2.out _).mono ?_; rintro e w' ⟨rfl, hb⟩; replace bn := below_more bn hb; replace HT := Lib.hid (HT.out.up hb); clear c0 c1 c2 lt hb; obtain ⟨c0, c1, c2, lt⟩ := HT.out))
  go_ret2
  exact ⟨rfl, bn⟩
 ·obtain ⟨z1, z2, z3, z4, z5, z6, z7⟩ := pd_out he
  rw [z1]
  have hne : (clE y m k p != 0) = true := by simpa using he
  generalize clE y m k p = er at *
  have H1 := Lib.hid h1
  clear h1 he z1 z2 z3 z4 z5 z6 z7
  go_enter Try.func16, Try.ntmps16
  go_wp2_with (go_at_call 36; refine (H1.out _).mono ?_; rintro e w' ⟨rfl, hb⟩; replace bn := below_more bn hb; replace HT := Lib.hid (HT.out.up hb); clear c0 c1 c2 lt hb; obtain ⟨c0, c1, c2, lt⟩ := HT.out)
  go_ret2
  exact ⟨rfl, bn⟩
theorem rlast7_any (y m k p : Int) (w : World) : Calls Try.prog 18 #[calV y m k, .int .i64 p] w fun e w' => e = .returned (.tuple #[.int .i64 (pdL y m k p), .int .i64 (clE y m k p)]) ∧ Below w.heap.size w w' := by
 obtain ⟨tn, bn⟩ := tri_new w 23 y m k
 have HT := Lib.hid tn
 obtain ⟨c0, c1, c2, lt⟩ := tn
 have h1 := fun w => rfirst7_any y m k p w
 by_cases he : clE y m k p = 0
 ·obtain ⟨hv, hp⟩ := clE_yes he
  obtain ⟨-, e1, e2, -⟩ := pd_in hv hp
  obtain ⟨a0, a1, -⟩ := cl_month hv hp
  have hc := mfst_one a0 a1
  have h2 := fun w => rciv_yes _ _ _ _ w hc
  have h3 := fun w => rdays_any ((mno y m + p) / 12) ((mno y m + p) % 12 + 1) w
  rw [dys_in (inYM_iff.2 ⟨hc.y0, hc.y1, hc.m0, hc.m1⟩), show mdy ((mno y m + p) / 12) ((mno y m + p) % 12 + 1) = mln (mno y m + p) from rfl] at h3
  have b0 := mfst_bd (T := mno y m + p) a0 (by omega)
  have b1 := mln_bd (mno y m + p)
  rw [e2, he, mfst_succ _ a0]
  rw [e1, he] at h1
  have H1 := Lib.hid h1
  have H2 := Lib.hid h2
  have H3 := Lib.hid h3
  clear h1 h2 h3 he e1 e2 hc hv
  go_enter Try.func18, Try.ntmps18
  go_wp2_with (first | (go_at_call 16; refine (H1.out _).mono ?_; rintro e w' ⟨rfl, hb⟩; replace bn := below_more bn hb; replace HT := Lib.hid (HT.out.up hb); clear c0 c1 c2 lt hb; obtain ⟨c0, c1, c2, lt⟩ := HT.out) | (go_at_call 27; refine (H2.out _).mono ?_; rintro e w' ⟨rfl, rfl⟩) | (go_at_call 37; refine (H3.out _).mono ?_; rintro e w' ⟨rfl, rfl⟩))
  go_ret2
  exact ⟨rfl, bn⟩
 ·obtain ⟨z1, z2, -⟩ := pd_out he
  rw [z2]
  have hne : (clE y m k p != 0) = true := by simpa using he
  generalize clE y m k p = er at *
  have H1 := Lib.hid h1
  clear h1 he z1 z2
  go_enter Try.func18, Try.ntmps18
  go_wp2_with (go_at_call 16; refine (H1.out _).mono ?_; rintro e w' ⟨rfl, hb⟩; replace bn := below_more bn hb; replace HT := Lib.hid (HT.out.up hb); clear c0 c1 c2 lt hb; obtain ⟨c0, c1, c2, lt⟩ := HT.out)
  go_ret2
  exact ⟨rfl, bn⟩
theorem rperiod7_any (y m k n : Int) (w : World) : Calls Try.prog 20 #[calV y m k, .int .i64 n] w fun e w' => e = .returned (.tuple #[.int .i64 (prN y m k n), .int .i64 (prE y m k n)]) ∧ Below w.heap.size w w' := by
 obtain ⟨tn, bn⟩ := tri_new w 23 y m k
 have HT := Lib.hid tn
 obtain ⟨c0, c1, c2, lt⟩ := tn
 have h1 := fun w => rvalid7_any y m k w
 cases hv : clV y m k
 ·rw [(pr_bad n hv).1, (pr_bad n hv).2]
  rw [hv] at h1
  have H1 := Lib.hid h1
  clear h1 hv
  go_enter Try.func20, Try.ntmps20
  go_wp2_with (go_at_call 12; refine (H1.out _).mono ?_; rintro e w' ⟨rfl, hb⟩; replace bn := below_more bn hb; replace HT := Lib.hid (HT.out.up hb); clear c0 c1 c2 lt hb; obtain ⟨c0, c1, c2, lt⟩ := HT.out)
  go_ret2
  exact ⟨rfl, bn⟩
 ·rw [hv] at h1
  have H1 := Lib.hid h1
  have HV := Lib.hid hv
  obtain ⟨k0, k1⟩ := cl_k hv
  clear h1 hv
  go_enter Try.func20, Try.ntmps20
  go_wp2_with (go_at_call 12; refine (H1.out _).mono ?_; rintro e w' ⟨rfl, hb⟩; replace bn := below_more bn hb; replace HT := Lib.hid (HT.out.up hb); clear c0 c1 c2 lt hb; obtain ⟨c0, c1, c2, lt⟩ := HT.out)
  go_loopw [6] (fun v wr => ∃ q : Int, v = .int .i64 q ∧ 0 ≤ q ∧ q ≤ k ∧ Hid (Tri wr w.heap.size y m k) ∧ Hid (Below w.heap.size w wr) ∧ Hid (n < mfst (mno y m) ∨ mfst (mno y m + q) ≤ n)) (fun v _ => (k - intOf v).toNat)
  case atStart => exact ⟨0, rfl, by omega, by omega, HT, bn, Lib.hid (by rw [Int.add_zero]; exact Int.lt_or_le _ _)⟩
  case round =>
   obtain ⟨q, rfl, q0, q1, HT, HB, HI⟩ := hrel
   clear c0 c1 c2 lt bn
   obtain ⟨c0, c1, c2, lt⟩ := HT.out
   by_cases hlt : q < k
   ·obtain ⟨e0, e1, e2, -⟩ := pd_in HV.out ⟨q0, hlt⟩
    obtain ⟨a0, a1, -⟩ := cl_month HV.out ⟨q0, hlt⟩
    have h2 := fun w => rfirst7_any y m k q w
    have h3 := fun w => rlast7_any y m k q w
    rw [e0, e1] at h2
    rw [e0, e2] at h3
    have bn := HB.out
    have H2 := Lib.hid h2
    have H3 := Lib.hid h3
    have hm0 : 22800 ≤ mno y m := by have := (cl_month HV.out (p := 0) ⟨by omega, by omega⟩).1; omega
    have hm := mfst_mono (S := mno y m) (T := mno y m + q) hm0 (by omega)
    have hm2 := mfst_succ (mno y m + q) a0
    have hm3 := mln_bd (mno y m + q)
    clear h2 h3 e0 e1 e2
    by_cases hin : mfst (mno y m + q) ≤ n ∧ n < mfst (mno y m + q + 1)
    ·obtain ⟨i1, i2⟩ := hin
     have hr := Lib.hid (pr_in HV.out ⟨q0, hlt⟩ i1 i2)
     have i3 : n ≤ mfst (mno y m + q + 1) - 1 := by omega
     clear i2 hm hm2 hm3
     go_wp2_with (first | (go_at_call 16; refine (H2.out _).mono ?_; rintro e w' ⟨rfl, hb⟩; replace bn := below_more bn hb; replace HT := Lib.hid (HT.out.up hb); clear c0 c1 c2 lt hb; obtain ⟨c0, c1, c2, lt⟩ := HT.out) | (go_at_call 18; refine (H3.out _).mono ?_; rintro e w' ⟨rfl, hb⟩; replace bn := below_more bn hb; replace HT := Lib.hid (HT.out.up hb); clear c0 c1 c2 lt hb; obtain ⟨c0, c1, c2, lt⟩ := HT.out))
     go_ret2
     exact ⟨ret_two hr.out.1.symm hr.out.2.symm, bn⟩
    ·have hnx : n < mfst (mno y m + q) ∨ mfst (mno y m + q) ≤ n ∧ mfst (mno y m + q + 1) ≤ n := by omega
     have hI := HI.out
     have hI2 : Hid (n < mfst (mno y m) ∨ mfst (mno y m + (q + 1)) ≤ n) := Lib.hid (by rw [show mno y m + (q + 1) = mno y m + q + 1 by omega]; omega)
     clear hin hm hm2 hm3 hI
     rcases hnx with hn1 | ⟨hn1, hn2⟩
     ·have hn3 : decide (mfst (mno y m + q) ≤ n) = false := decide_eq_false (by omega)
      clear hn1
      go_wp2_with (first | (go_at_call 16; refine (H2.out _).mono ?_; rintro e w' ⟨rfl, hb⟩; replace bn := below_more bn hb; replace HT := Lib.hid (HT.out.up hb); clear c0 c1 c2 lt hb; obtain ⟨c0, c1, c2, lt⟩ := HT.out) | (go_at_call 18; refine (H3.out _).mono ?_; rintro e w' ⟨rfl, hb⟩; replace bn := below_more bn hb; replace HT := Lib.hid (HT.out.up hb); clear c0 c1 c2 lt hb; obtain ⟨c0, c1, c2, lt⟩ := HT.out))
      go_roundw
      case rel => exact ⟨q + 1, rfl, by omega, by omega, HT, Lib.hid bn, hI2⟩
      case measure => simp [intOf]; omega
     ·have hn3 : decide (n ≤ mfst (mno y m + q + 1) - 1) = false := decide_eq_false (by omega)
      clear hn2
      go_wp2_with (first | (go_at_call 16; refine (H2.out _).mono ?_; rintro e w' ⟨rfl, hb⟩; replace bn := below_more bn hb; replace HT := Lib.hid (HT.out.up hb); clear c0 c1 c2 lt hb; obtain ⟨c0, c1, c2, lt⟩ := HT.out) | (go_at_call 18; refine (H3.out _).mono ?_; rintro e w' ⟨rfl, hb⟩; replace bn := below_more bn hb; replace HT := Lib.hid (HT.out.up hb); clear c0 c1 c2 lt hb; obtain ⟨c0, c1, c2, lt⟩ := HT.out))
      go_roundw
      case rel => exact ⟨q + 1, rfl, by omega, by omega, HT, Lib.hid bn, hI2⟩
      case measure => simp [intOf]; omega
   ·obtain rfl : q = k := by omega
    have hno : Hid (prN y m q n = 0 ∧ prE y m q n = 2) := Lib.hid (pr_no HV.out (by
     cases hi : inP y m q n
     ·rfl
     ·obtain ⟨⟨i0, i1⟩, i2, i3⟩ := per_at hi
      have hm0 : 22800 ≤ mno y m := by have := (cl_month HV.out (p := 0) ⟨by omega, by omega⟩).1; omega
      rcases HI.out with h | h
      ·have := mfst_mono (S := mno y m) (T := mno y m + (mth n - mno y m)) hm0 (by omega); omega
      ·have := mfst_mono (S := mno y m + (mth n - mno y m) + 1) (T := mno y m + q) (by omega) (by omega); omega))
    have hqq : decide (q < q) = false := by simp
    clear hlt
    go_wp2_with fail
    go_ret2
    exact ⟨ret_two hno.out.1.symm hno.out.2.symm, HB.out⟩
theorem cmof7_no (n : Int) (w : World) (h : vdB n = false) : Calls Try.prog 38 #[.int .i64 n] w fun e w' => e = .returned (.tuple #[.int .i64 0, .int .i64 2]) ∧ Below w.heap.size w w' := by
 have bn := Below.refl w.heap.size w
 have h1 := fun w => civ_no n w h
 have H1 := Lib.hid h1
 clear h1
 go_enter Try.func38, Try.ntmps38
 go_wp2_with (go_at_call 42; refine (H1.out _).mono ?_; rintro e w' ⟨rfl, rfl⟩)
 go_ret2
 exact ⟨rfl, bn⟩
theorem cmof7_yes (n : Int) (w : World) (h : vdB n = true) : Calls Try.prog 38 #[.int .i64 n] w fun e w' => e = .returned (.tuple #[.int .i64 (mth n), .int .i64 0]) ∧ Below w.heap.size w w' := by
 have bn := Below.refl w.heap.size w
 have h1 := fun w => civ_any n w h
 have hc := civ_is h
 have h2 := fun w => cnum7_any (civY n) (civM n) w ⟨hc.y0, hc.y1, hc.m0, hc.m1⟩
 unfold mth
 have H1 := Lib.hid h1
 have H2 := Lib.hid h2
 clear h1 h2 hc
 go_enter Try.func38, Try.ntmps38
 go_wp2_with (first | (go_at_call 42; refine (H1.out _).mono ?_; rintro e w' ⟨rfl, hb⟩; replace bn := below_more bn hb; clear hb) | (go_at_call 45; refine (H2.out _).mono ?_; rintro e w' ⟨rfl, rfl⟩))
 go_ret2
 exact ⟨rfl, bn⟩
theorem cperiod7_any (y m k n : Int) (w : World) : Calls Try.prog 19 #[calV y m k, .int .i64 n] w fun e w' => e = .returned (.tuple #[.int .i64 (prN y m k n), .int .i64 (prE y m k n)]) ∧ Below w.heap.size w w' := by
 obtain ⟨tn, bn⟩ := tri_new w 23 y m k
 have HT := Lib.hid tn
 obtain ⟨c0, c1, c2, lt⟩ := tn
 have h1 := fun w => cvalid7_any y m k w
 cases hv : clV y m k
 ·rw [(pr_bad n hv).1, (pr_bad n hv).2]
  rw [hv] at h1
  have H1 := Lib.hid h1
  clear h1 hv
  go_enter Try.func19, Try.ntmps19
  go_wp2_with (go_at_call 11; refine (H1.out _).mono ?_; rintro e w' ⟨rfl, hb⟩; replace bn := below_more bn hb; replace HT := Lib.hid (HT.out.up hb); clear c0 c1 c2 lt hb; obtain ⟨c0, c1, c2, lt⟩ := HT.out)
  go_ret2
  exact ⟨rfl, bn⟩
 ·rw [hv] at h1
  have H1 := Lib.hid h1
  clear h1
  cases hd : vdB n
  ·have h2 := fun w => cmof7_no n w hd
   obtain ⟨e1, e2⟩ := pr_no (n := n) hv (by unfold inP; rw [hd]; rfl)
   rw [e1, e2]
   have H2 := Lib.hid h2
   clear h2 hd hv e1 e2
   go_enter Try.func19, Try.ntmps19
   go_wp2_with (first | (go_at_call 11; refine (H1.out _).mono ?_; rintro e w' ⟨rfl, hb⟩; replace bn := below_more bn hb; replace HT := Lib.hid (HT.out.up hb); clear c0 c1 c2 lt hb; obtain ⟨c0, c1, c2, lt⟩ := HT.out) | (go_at_call 38; refine (H2.out _).mono ?_; rintro e w' ⟨rfl, hb⟩; replace bn := below_more bn hb; replace HT := Lib.hid (HT.out.up hb); clear c0 c1 c2 lt hb; obtain ⟨c0, c1, c2, lt⟩ := HT.out))
   go_ret2
   exact ⟨rfl, bn⟩
  ·have h2 := fun w => cmof7_yes n w hd
   obtain ⟨ym, -⟩ := (clV_iff.1 hv).2
   have h3 := fun w => cmon7_any y m k 0 w ym (by omega)
   have h4 := fun w => cisp7_any y m k (mth n - mno y m) w
   rw [Int.add_zero] at h3
   obtain ⟨t0, t1, -⟩ := mth_is hd
   have e0 : mno y m = 12 * y + m - 1 := rfl
   have hb : 22800 ≤ mno y m ∧ mno y m ≤ 26399 := by omega
   cases hi : inP y m k n
   ·obtain ⟨e1, e2⟩ := pr_no hv hi
    rw [e1, e2]
    unfold inP at hi
    rw [hd, Bool.true_and] at hi
    rw [hi] at h4
    have H2 := Lib.hid h2
    have H3 := Lib.hid h3
    have H4 := Lib.hid h4
    clear h2 h3 h4 hd hv e1 e2 hi e0 ym
    generalize mth n = t at *
    generalize mno y m = N at *
    obtain ⟨b0, b1⟩ := hb
    go_enter Try.func19, Try.ntmps19
    go_wp2_with (first | (go_at_call 11; refine (H1.out _).mono ?_; rintro e w' ⟨rfl, hb⟩; replace bn := below_more bn hb; replace HT := Lib.hid (HT.out.up hb); clear c0 c1 c2 lt hb; obtain ⟨c0, c1, c2, lt⟩ := HT.out) | (go_at_call 38; refine (H2.out _).mono ?_; rintro e w' ⟨rfl, hb⟩; replace bn := below_more bn hb; replace HT := Lib.hid (HT.out.up hb); clear c0 c1 c2 lt hb; obtain ⟨c0, c1, c2, lt⟩ := HT.out) | (go_at_call 31; refine (H3.out _).mono ?_; rintro e w' ⟨rfl, hb⟩; replace bn := below_more bn hb; replace HT := Lib.hid (HT.out.up hb); clear c0 c1 c2 lt hb; obtain ⟨c0, c1, c2, lt⟩ := HT.out) | (go_at_call 39; refine (H4.out _).mono ?_; rintro e w' ⟨rfl, hb⟩; replace bn := below_more bn hb; replace HT := Lib.hid (HT.out.up hb); clear c0 c1 c2 lt hb; obtain ⟨c0, c1, c2, lt⟩ := HT.out))
    go_ret2
    exact ⟨rfl, bn⟩
   ·obtain ⟨e1, e2⟩ := pr_yes hv hi
    rw [e1, e2]
    unfold inP at hi
    rw [hd, Bool.true_and] at hi
    rw [hi] at h4
    have H2 := Lib.hid h2
    have H3 := Lib.hid h3
    have H4 := Lib.hid h4
    clear h2 h3 h4 hd hv e1 e2 hi e0 ym
    generalize mth n = t at *
    generalize mno y m = N at *
    obtain ⟨b0, b1⟩ := hb
    go_enter Try.func19, Try.ntmps19
    go_wp2_with (first | (go_at_call 11; refine (H1.out _).mono ?_; rintro e w' ⟨rfl, hb⟩; replace bn := below_more bn hb; replace HT := Lib.hid (HT.out.up hb); clear c0 c1 c2 lt hb; obtain ⟨c0, c1, c2, lt⟩ := HT.out) | (go_at_call 38; refine (H2.out _).mono ?_; rintro e w' ⟨rfl, hb⟩; replace bn := below_more bn hb; replace HT := Lib.hid (HT.out.up hb); clear c0 c1 c2 lt hb; obtain ⟨c0, c1, c2, lt⟩ := HT.out) | (go_at_call 31; refine (H3.out _).mono ?_; rintro e w' ⟨rfl, hb⟩; replace bn := below_more bn hb; replace HT := Lib.hid (HT.out.up hb); clear c0 c1 c2 lt hb; obtain ⟨c0, c1, c2, lt⟩ := HT.out) | (go_at_call 39; refine (H4.out _).mono ?_; rintro e w' ⟨rfl, hb⟩; replace bn := below_more bn hb; replace HT := Lib.hid (HT.out.up hb); clear c0 c1 c2 lt hb; obtain ⟨c0, c1, c2, lt⟩ := HT.out))
    go_ret2
    exact ⟨rfl, bn⟩
theorem law_cperiod (y m k n : Int) (w : World) : Calls Try.prog 5 #[calV y m k, .int .i64 n] w fun e w' => e = .returned (.bool true) ∧ Below w.heap.size w w' := by
 obtain ⟨tn, bn⟩ := tri_new w 23 y m k
 have HT := Lib.hid tn
 obtain ⟨c0, c1, c2, lt⟩ := tn
 go_enter Try.func5, Try.ntmps5
 go_wp2_with (first | (go_at_call 10; refine (clawake_any _).mono ?_; rintro e w' ⟨rfl, hb⟩; replace bn := below_more bn hb; replace HT := Lib.hid (HT.out.up hb); clear c0 c1 c2 lt hb; obtain ⟨c0, c1, c2, lt⟩ := HT.out) | (go_at_call 19; refine (cperiod7_any _ _ _ _ _).mono ?_; rintro e w' ⟨rfl, hb⟩; replace bn := below_more bn hb; replace HT := Lib.hid (HT.out.up hb); clear c0 c1 c2 lt hb; obtain ⟨c0, c1, c2, lt⟩ := HT.out) | (go_at_call 20; refine (rperiod7_any _ _ _ _ _).mono ?_; rintro e w' ⟨rfl, hb⟩; replace bn := below_more bn hb; replace HT := Lib.hid (HT.out.up hb); clear c0 c1 c2 lt hb; obtain ⟨c0, c1, c2, lt⟩ := HT.out))
 go_ret
 exact ⟨rfl, bn⟩
end Go.Proofs.Ytdloccpcbcpdgaa
