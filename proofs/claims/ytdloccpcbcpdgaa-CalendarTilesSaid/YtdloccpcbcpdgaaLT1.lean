/- Contracts and the law of CalendarTiles, part 1: what was proved of each, callees first. -/
import Derived.Test.YtdloccpcbcpdgaaLK1
namespace Go.Proofs.Ytdloccpcbcpdgaa
theorem mfst_succ (T : Int) (h : 22800 ≤ T) : mfst (T + 1) = mfst T + mln T := by
 unfold mfst mln
 have s := mon_succ (T / 12) (T % 12 + 1) (by omega) (by omega)
 by_cases h1 : T % 12 = 11
 ·rw [show (T + 1) / 12 = T / 12 + 1 by omega, show (T + 1) % 12 + 1 = 1 by omega, mon_1, nyr_succ (T / 12) (by omega)]
  rw [show T % 12 + 1 + 1 = 13 by omega, mon_13] at s
  omega
 ·rw [show (T + 1) / 12 = T / 12 by omega, show (T + 1) % 12 + 1 = T % 12 + 1 + 1 by omega, s]
  omega
theorem mfst_step (S : Int) (k : Nat) (h : 22800 ≤ S) : mfst S + 28 * k ≤ mfst (S + k) := by
 induction k with
 | zero => simp
 | succ k ih =>
  have h1 := mfst_succ (S + k) (by omega)
  have h2 := mln_bd (S + k)
  rw [show S + ((k + 1 : Nat) : Int) = S + k + 1 by omega, h1]
  omega
theorem mfst_mono {S T : Int} (h : 22800 ≤ S) (h1 : S ≤ T) : mfst S + 28 * (T - S) ≤ mfst T := by
 have h2 := mfst_step S (T - S).toNat h
 have h3 : ((T - S).toNat : Int) = T - S := Int.toNat_of_nonneg (by omega)
 rw [h3, show S + (T - S) = T by omega] at h2
 exact h2
theorem mfst_0 : mfst 22800 = -25567 := by decide
theorem mfst_end : mfst 26400 = 84006 := by decide
theorem mfst_bd {T : Int} (h : 22800 ≤ T) (h1 : T ≤ 26400) : -25567 ≤ mfst T ∧ mfst T ≤ 84006 := by
 have a := mfst_mono (Int.le_refl 22800) h
 have b := mfst_mono h h1
 rw [mfst_0] at a
 rw [mfst_end] at b
 omega
def mth (n : Int) : Int := mno (civY n) (civM n)
theorem mth_is {n : Int} (h : vdB n = true) : 22800 ≤ mth n ∧ mth n ≤ 26399 ∧ mfst (mth n) ≤ n ∧ n < mfst (mth n + 1) := by
 have hc := civ_is h
 have y0 := hc.y0
 have y1 := hc.y1
 have m0 := hc.m0
 have m1 := hc.m1
 have d0 := hc.d0
 have d1 := hc.d1
 have e : mth n = 12 * civY n + civM n - 1 := rfl
 have e1 : mth n / 12 = civY n := by omega
 have e2 : mth n % 12 + 1 = civM n := by omega
 have s := mfst_succ (mth n) (by omega)
 have f : mfst (mth n) = nyr (civY n) + mon (civY n) (civM n) := by unfold mfst; rw [e1, e2]
 have g : mln (mth n) = mdy (civY n) (civM n) := by unfold mln; rw [e1, e2]
 have q := hc.eq
 unfold dno at q
 refine ⟨by omega, by omega, by omega, by omega⟩
theorem mth_uniq {n T : Int} (h : vdB n = true) (h0 : 22800 ≤ T) (h1 : mfst T ≤ n) (h2 : n < mfst (T + 1)) : T = mth n := by
 obtain ⟨a, b, c, d⟩ := mth_is h
 rcases Int.lt_trichotomy T (mth n) with hl | hl | hl
 ·have := mfst_mono (S := T + 1) (T := mth n) (by omega) (by omega); omega
 ·exact hl
 ·have := mfst_mono (S := mth n + 1) (T := T) (by omega) (by omega); omega
/- The first day of a month that lies p months after another one. -/
def inP (y m k n : Int) : Bool := vdB n && (decide (0 ≤ mth n - mno y m) && decide (mth n - mno y m < k))
def prE (y m k n : Int) : Int := if clV y m k then (if inP y m k n then 0 else 2) else 1
def prN (y m k n : Int) : Int := if clV y m k && inP y m k n then mth n - mno y m else 0
theorem inP_iff {y m k n : Int} : inP y m k n = true ↔ vdB n = true ∧ 0 ≤ mth n - mno y m ∧ mth n - mno y m < k := by
 unfold inP
 rw [Bool.and_eq_true, Bool.and_eq_true, decide_eq_true_eq, decide_eq_true_eq]
theorem per_in {y m k p n : Int} (h : clV y m k = true) (hp : 0 ≤ p ∧ p < k) (h1 : mfst (mno y m + p) ≤ n) (h2 : n < mfst (mno y m + p + 1)) : inP y m k n = true ∧ mth n - mno y m = p := by
 obtain ⟨a, b, -⟩ := cl_month h hp
 have b1 := mfst_bd (T := mno y m + p) a (by omega)
 have b2 := mfst_bd (T := mno y m + p + 1) (by omega) (by omega)
 have hv : vdB n = true := vdB_iff.2 ⟨by omega, by omega⟩
 have e := mth_uniq hv a h1 h2
 exact ⟨inP_iff.2 ⟨hv, by omega, by omega⟩, by omega⟩
theorem per_at {y m k n : Int} (h : inP y m k n = true) : (0 ≤ mth n - mno y m ∧ mth n - mno y m < k) ∧ mfst (mno y m + (mth n - mno y m)) ≤ n ∧ n < mfst (mno y m + (mth n - mno y m) + 1) := by
 obtain ⟨hv, a, b⟩ := inP_iff.1 h
 obtain ⟨-, -, c, d⟩ := mth_is hv
 rw [show mno y m + (mth n - mno y m) = mth n by omega]
 exact ⟨⟨a, b⟩, c, d⟩
open Go.RowKit
theorem pr_bad {y m k : Int} (n : Int) (h : clV y m k = false) : prN y m k n = 0 ∧ prE y m k n = 1 := by
 unfold prN prE
 rw [h]
 exact ⟨rfl, rfl⟩
theorem pr_no {y m k n : Int} (h : clV y m k = true) (hi : inP y m k n = false) : prN y m k n = 0 ∧ prE y m k n = 2 := by
 unfold prN prE
 rw [h, hi]
 exact ⟨rfl, rfl⟩
theorem pr_yes {y m k n : Int} (h : clV y m k = true) (hi : inP y m k n = true) : prN y m k n = mth n - mno y m ∧ prE y m k n = 0 := by
 unfold prN prE
 rw [h, hi]
 exact ⟨rfl, rfl⟩
theorem cmof7_no (n : Int) (w : World) (h : vdB n = false) : Calls Try.prog 38 #[.int .i64 n] w fun e w' => e = .returned (.tuple #[.int .i64 0, .int .i64 2]) ∧ Below w.heap.size w w' := by
 have bn := Below.refl w.heap.size w
 have h1 := fun w => civ_no n w h
 have H1 := Lib.hid h1
 clear h1
 go_enter Try.func38, Try.ntmps38
 go_wp2_with (go_at_call 42; refine (H1.out _).mono ?_; rintro e w' ⟨rfl, rfl⟩)
 go_ret2
 exact ⟨rfl, bn⟩
theorem cmof7_yes (n : Int) (w : World) (h : vdB n = true) : Calls Try.prog 38 #[.int .i64 n] w fun e w' => e = .returned (.tuple #[.int .i64 (mth n), .int .i64 0]) ∧ Below w.heap.size w w' := by
 have bn := Below.refl w.heap.size w
 have h1 := fun w => civ_any n w h
 have hc := civ_is h
 have h2 := fun w => cnum7_any (civY n) (civM n) w ⟨hc.y0, hc.y1, hc.m0, hc.m1⟩
 unfold mth
 have H1 := Lib.hid h1
 have H2 := Lib.hid h2
 clear h1 h2 hc
 go_enter Try.func38, Try.ntmps38
 go_wp2_with (first | (go_at_call 42; refine (H1.out _).mono ?_; rintro e w' ⟨rfl, hb⟩; replace bn := below_more bn hb; clear hb) | (go_at_call 45; refine (H2.out _).mono ?_; rintro e w' ⟨rfl, rfl⟩))
 go_ret2
 exact ⟨rfl, bn⟩
theorem clast7_any (y m k p : Int) (w : World) : Calls Try.prog 17 #[calV y m k, .int .i64 p] w fun e w' => e = .returned (.tuple #[.int .i64 (pdL y m k p), .int .i64 (clE y m k p)]) ∧ Below w.heap.size w w' := by
 obtain ⟨tn, bn⟩ := tri_new w 23 y m k
 have HT := Lib.hid tn
 obtain ⟨c0, c1, c2, lt⟩ := tn
 have h1 := fun w => ccheck7_any y m k p w
 by_cases he : clE y m k p = 0
 ·obtain ⟨hv, hp⟩ := clE_yes he
  obtain ⟨-, -, e2, -⟩ := pd_in hv hp
  obtain ⟨a0, a1, a2⟩ := cl_month hv hp
  obtain ⟨ym, -⟩ := (clV_iff.1 hv).2
  obtain ⟨k0, k1⟩ := cl_k hv
  have h2 := fun w => cmon7_any y m k p w ym (by omega)
  have h3 := fun w => cciv7_any (mno y m + p) w (by omega)
  have hm := mln_bd (mno y m + p)
  obtain ⟨o1, o2⟩ := of_civ (mfst_civ (d := mln (mno y m + p)) a0 a1 (by omega) (Int.le_refl _))
  have h4 := fun w => dtof_any ((mno y m + p) / 12) ((mno y m + p) % 12 + 1) (mln (mno y m + p)) w
  have h5 := fun w => days_any ((mno y m + p) / 12) ((mno y m + p) % 12 + 1) w
  have hc := mfst_one a0 a1
  rw [dys_in (inYM_iff.2 ⟨hc.y0, hc.y1, hc.m0, hc.m1⟩), show mdy ((mno y m + p) / 12) ((mno y m + p) % 12 + 1) = mln (mno y m + p) from rfl] at h5
  rw [o1, o2] at h4
  rw [e2, he, mfst_succ _ a0]
  rw [he] at h1
  have H1 := Lib.hid h1
  have H2 := Lib.hid h2
  have H3 := Lib.hid h3
  have H4 := Lib.hid h4
  have H5 := Lib.hid h5
  clear h1 h2 h3 h4 h5 e2 a0 a1 a2 ym o1 o2 he hv hp hc hm
  generalize mfst (mno y m + p) + mln (mno y m + p) - 1 = F at *
  generalize mln (mno y m + p) = M at *
  generalize mno y m + p = T at *
  generalize T % 12 + 1 = b2 at *
  generalize T / 12 = a2 at *
  go_enter Try.func17, Try.ntmps17
  go_wp2_with (first | (go_at_call 34; refine (H1.out _).mono ?_; rintro e w' ⟨rfl, hb⟩; replace bn := below_more bn hb; replace HT := Lib.hid (HT.out.up hb); clear c0 c1 c2 lt hb; obtain ⟨c0, c1, c2, lt⟩ := HT.out) | (go_at_call 31; refine (H2.out _).mono ?_; rintro e w' ⟨rfl, hb⟩; replace bn := below_more bn hb; replace HT := Lib.hid (HT.out.up hb); clear c0 c1 c2 lt hb; obtain ⟨c0, c1, c2, lt⟩ := HT.out) | (go_at_call 30; refine (H3.out _).mono ?_; rintro e w' ⟨rfl, rfl⟩) | (go_at_call 29; refine (H5.out _).mono ?_; rintro e w' ⟨rfl, hb⟩; replace bn := below_more bn hb; replace HT := Lib.hid (HT.out.up hb); clear c0 c1 c2 lt hb; obtain ⟨c0, c1, c2, lt⟩ := HT.out) | (go_at_call 35; refine (H4.out _).mono ?_; rintro e w' ⟨rfl, hb⟩; replace bn := below_more bn hb; replace HT := Lib.hid (HT.out.up hb); clear c0 c1 c2 lt hb; obtain ⟨c0, c1, c2, lt⟩ := HT.out))
  go_ret2
  exact ⟨rfl, bn⟩
 ·obtain ⟨z1, z2, z3, z4, z5, z6, z7⟩ := pd_out he
  rw [z2]
  have hne : (clE y m k p != 0) = true := by simpa using he
  generalize clE y m k p = er at *
  have H1 := Lib.hid h1
  clear h1 he z1 z2 z3 z4 z5 z6 z7
  go_enter Try.func17, Try.ntmps17
  go_wp2_with (go_at_call 34; refine (H1.out _).mono ?_; rintro e w' ⟨rfl, hb⟩; replace bn := below_more bn hb; replace HT := Lib.hid (HT.out.up hb); clear c0 c1 c2 lt hb; obtain ⟨c0, c1, c2, lt⟩ := HT.out)
  go_ret2
  exact ⟨rfl, bn⟩
theorem cperiod7_any (y m k n : Int) (w : World) : Calls Try.prog 19 #[calV y m k, .int .i64 n] w fun e w' => e = .returned (.tuple #[.int .i64 (prN y m k n), .int .i64 (prE y m k n)]) ∧ Below w.heap.size w w' := by
 obtain ⟨tn, bn⟩ := tri_new w 23 y m k
 have HT := Lib.hid tn
 obtain ⟨c0, c1, c2, lt⟩ := tn
 have h1 := fun w => cvalid7_any y m k w
 cases hv : clV y m k
 ·rw [(pr_bad n hv).1, (pr_bad n hv).2]
  rw [hv] at h1
  have H1 := Lib.hid h1
  clear h1 hv
  go_enter Try.func19, Try.ntmps19
  go_wp2_with (go_at_call 11; refine (H1.out _).mono ?_; rintro e w' ⟨rfl, hb⟩; replace bn := below_more bn hb; replace HT := Lib.hid (HT.out.up hb); clear c0 c1 c2 lt hb; obtain ⟨c0, c1, c2, lt⟩ := HT.out)
  go_ret2
  exact ⟨rfl, bn⟩
 ·rw [hv] at h1
  have H1 := Lib.hid h1
  clear h1
  cases hd : vdB n
  ·have h2 := fun w => cmof7_no n w hd
   obtain ⟨e1, e2⟩ := pr_no (n := n) hv (by unfold inP; rw [hd]; rfl)
   rw [e1, e2]
   have H2 := Lib.hid h2
   clear h2 hd hv e1 e2
   go_enter Try.func19, Try.ntmps19
   go_wp2_with (first | (go_at_call 11; refine (H1.out _).mono ?_; rintro e w' ⟨rfl, hb⟩; replace bn := below_more bn hb; replace HT := Lib.hid (HT.out.up hb); clear c0 c1 c2 lt hb; obtain ⟨c0, c1, c2, lt⟩ := HT.out) | (go_at_call 38; refine (H2.out _).mono ?_; rintro e w' ⟨rfl, hb⟩; replace bn := below_more bn hb; replace HT := Lib.hid (HT.out.up hb); clear c0 c1 c2 lt hb; obtain ⟨c0, c1, c2, lt⟩ := HT.out))
   go_ret2
   exact ⟨rfl, bn⟩
  ·have h2 := fun w => cmof7_yes n w hd
   obtain ⟨ym, -⟩ := (clV_iff.1 hv).2
   have h3 := fun w => cmon7_any y m k 0 w ym (by omega)
   have h4 := fun w => cisp7_any y m k (mth n - mno y m) w
   rw [Int.add_zero] at h3
   obtain ⟨t0, t1, -⟩ := mth_is hd
   have e0 : mno y m = 12 * y + m - 1 := rfl
   have hb : 22800 ≤ mno y m ∧ mno y m ≤ 26399 := by omega
   cases hi : inP y m k n
   ·obtain ⟨e1, e2⟩ := pr_no hv hi
    rw [e1, e2]
    unfold inP at hi
    rw [hd, Bool.true_and] at hi
    rw [hi] at h4
    have H2 := Lib.hid h2
    have H3 := Lib.hid h3
    have H4 := Lib.hid h4
    clear h2 h3 h4 hd hv e1 e2 hi e0 ym
    generalize mth n = t at *
    generalize mno y m = N at *
    obtain ⟨b0, b1⟩ := hb
    go_enter Try.func19, Try.ntmps19
    go_wp2_with (first | (go_at_call 11; refine (H1.out _).mono ?_; rintro e w' ⟨rfl, hb⟩; replace bn := below_more bn hb; replace HT := Lib.hid (HT.out.up hb); clear c0 c1 c2 lt hb; obtain ⟨c0, c1, c2, lt⟩ := HT.out) | (go_at_call 38; refine (H2.out _).mono ?_; rintro e w' ⟨rfl, hb⟩; replace bn := below_more bn hb; replace HT := Lib.hid (HT.out.up hb); clear c0 c1 c2 lt hb; obtain ⟨c0, c1, c2, lt⟩ := HT.out) | (go_at_call 31; refine (H3.out _).mono ?_; rintro e w' ⟨rfl, hb⟩; replace bn := below_more bn hb; replace HT := Lib.hid (HT.out.up hb); clear c0 c1 c2 lt hb; obtain ⟨c0, c1, c2, lt⟩ := HT.out) | (go_at_call 39; refine (H4.out _).mono ?_; rintro e w' ⟨rfl, hb⟩; replace bn := below_more bn hb; replace HT := Lib.hid (HT.out.up hb); clear c0 c1 c2 lt hb; obtain ⟨c0, c1, c2, lt⟩ := HT.out))
    go_ret2
    exact ⟨rfl, bn⟩
   ·obtain ⟨e1, e2⟩ := pr_yes hv hi
    rw [e1, e2]
    unfold inP at hi
    rw [hd, Bool.true_and] at hi
    rw [hi] at h4
    have H2 := Lib.hid h2
    have H3 := Lib.hid h3
    have H4 := Lib.hid h4
    clear h2 h3 h4 hd hv e1 e2 hi e0 ym
    generalize mth n = t at *
    generalize mno y m = N at *
    obtain ⟨b0, b1⟩ := hb
    go_enter Try.func19, Try.ntmps19
    go_wp2_with (first | (go_at_call 11; refine (H1.out _).mono ?_; rintro e w' ⟨rfl, hb⟩; replace bn := below_more bn hb; replace HT := Lib.hid (HT.out.up hb); clear c0 c1 c2 lt hb; obtain ⟨c0, c1, c2, lt⟩ := HT.out) | (go_at_call 38; refine (H2.out _).mono ?_; rintro e w' ⟨rfl, hb⟩; replace bn := below_more bn hb; replace HT := Lib.hid (HT.out.up hb); clear c0 c1 c2 lt hb; obtain ⟨c0, c1, c2, lt⟩ := HT.out) | (go_at_call 31; refine (H3.out _).mono ?_; rintro e w' ⟨rfl, hb⟩; replace bn := below_more bn hb; replace HT := Lib.hid (HT.out.up hb); clear c0 c1 c2 lt hb; obtain ⟨c0, c1, c2, lt⟩ := HT.out) | (go_at_call 39; refine (H4.out _).mono ?_; rintro e w' ⟨rfl, hb⟩; replace bn := below_more bn hb; replace HT := Lib.hid (HT.out.up hb); clear c0 c1 c2 lt hb; obtain ⟨c0, c1, c2, lt⟩ := HT.out))
    go_ret2
    exact ⟨rfl, bn⟩
def fnd (y m k n q fo : Int) : Prop := (fo = -1 ∧ ¬ (inP y m k n = true ∧ mth n - mno y m < q)) ∨ (inP y m k n = true ∧ fo = mth n - mno y m ∧ fo < q)
theorem fnd_0 (y m k n : Int) : fnd y m k n 0 (-1) := .inl ⟨rfl, fun h => by have := (per_at h.1).1; omega⟩
theorem fnd_hit {y m k n q : Int} (h : clV y m k = true) (hq : 0 ≤ q ∧ q < k) (h1 : mfst (mno y m + q) ≤ n) (h2 : n < mfst (mno y m + q + 1)) : fnd y m k n (q + 1) q := by
 obtain ⟨r1, r2⟩ := per_in h hq h1 h2
 exact .inr ⟨r1, r2.symm, by omega⟩
theorem fnd_miss {y m k n q fo : Int} (_h : clV y m k = true) (_hq : 0 ≤ q ∧ q < k) (hf : fnd y m k n q fo) (hn : ¬ (mfst (mno y m + q) ≤ n ∧ n < mfst (mno y m + q + 1))) : fnd y m k n (q + 1) fo := by
 rcases hf with ⟨h1, h2⟩ | ⟨h1, h2, h3⟩
 ·refine .inl ⟨h1, fun e => ?_⟩
  have e3 : mth n - mno y m = q := by
   have := e.2
   have h4 : ¬ mth n - mno y m < q := fun h5 => h2 ⟨e.1, h5⟩
   omega
  obtain ⟨-, p1, p2⟩ := per_at e.1
  rw [e3] at p1 p2
  exact hn ⟨p1, p2⟩
 ·exact .inr ⟨h1, h2, by omega⟩
theorem fnd_end {y m k n fo : Int} (h : clV y m k = true) (hf : fnd y m k n k fo) : (fo < 0 ∧ prN y m k n = 0 ∧ prE y m k n = 2) ∨ (0 ≤ fo ∧ prN y m k n = fo ∧ prE y m k n = 0) := by
 rcases hf with ⟨h1, h2⟩ | ⟨h1, h2, h3⟩
 ·left
  have hi : inP y m k n = false := by
   cases hi : inP y m k n
   ·rfl
   ·exact absurd ⟨hi, (per_at hi).1.2⟩ h2
  obtain ⟨a, b⟩ := pr_no h hi
  exact ⟨by omega, a, b⟩
 ·right
  obtain ⟨a, b⟩ := pr_yes h h1
  have := (per_at h1).1
  exact ⟨by omega, by omega, b⟩
set_option maxRecDepth 20000 in
set_option maxHeartbeats 3200000 in
theorem law_ctiles (y m k n : Int) (w : World) : Calls Try.prog 7 #[calV y m k, .int .i64 n] w fun e w' => e = .returned (.bool true) ∧ Below w.heap.size w w' := by
 obtain ⟨tn, bn⟩ := tri_new w 23 y m k
 have HT := Lib.hid tn
 obtain ⟨c0, c1, c2, lt⟩ := tn
 have hv := fun w => rvalid7_any y m k w
 cases hc : clV y m k
 ·rw [hc] at hv
  have HV := Lib.hid hv
  clear hv hc
  go_enter Try.func7, Try.ntmps7
  go_wp2_with (first | (go_at_call 10; refine (clawake_any _).mono ?_; rintro e w' ⟨rfl, hb⟩; replace bn := below_more bn hb; replace HT := Lib.hid (HT.out.up hb); clear c0 c1 c2 lt hb; obtain ⟨c0, c1, c2, lt⟩ := HT.out) | (go_at_call 12; refine (HV.out _).mono ?_; rintro e w' ⟨rfl, hb⟩; replace bn := below_more bn hb; replace HT := Lib.hid (HT.out.up hb); clear c0 c1 c2 lt hb; obtain ⟨c0, c1, c2, lt⟩ := HT.out))
  go_ret
  exact ⟨rfl, bn⟩
 ·rw [hc] at hv
  have HV := Lib.hid hv
  have HC := Lib.hid hc
  obtain ⟨k0, k1⟩ := cl_k hc
  clear hv hc
  go_enter Try.func7, Try.ntmps7
  go_wp2_with (first | (go_at_call 10; refine (clawake_any _).mono ?_; rintro e w' ⟨rfl, hb⟩; replace bn := below_more bn hb; replace HT := Lib.hid (HT.out.up hb); clear c0 c1 c2 lt hb; obtain ⟨c0, c1, c2, lt⟩ := HT.out) | (go_at_call 12; refine (HV.out _).mono ?_; rintro e w' ⟨rfl, hb⟩; replace bn := below_more bn hb; replace HT := Lib.hid (HT.out.up hb); clear c0 c1 c2 lt hb; obtain ⟨c0, c1, c2, lt⟩ := HT.out))
  go_loopw [5, 6, 7] (fun v5 v6 v7 wr => ∃ q fo la : Int, v7 = .int .i64 q ∧ v6 = .int .i64 la ∧ v5 = .int .i64 fo ∧ 0 ≤ q ∧ q ≤ k ∧ -1 ≤ fo ∧ fo ≤ 200 ∧ Hid (fnd y m k n q fo) ∧ Hid (0 < q → la = mfst (mno y m + q) - 1) ∧ Hid (Tri wr w.heap.size y m k) ∧ Hid (Below w.heap.size w wr)) (fun _ _ v7 _ => (k - intOf v7).toNat)
  case atStart => exact ⟨0, -1, 0, rfl, rfl, rfl, by omega, by omega, by omega, by omega, fnd_0 _ _ _ _, fun h => absurd h (by omega), HT, bn⟩
  case round =>
   obtain ⟨q, fo, la, rfl, rfl, rfl, q0, q1, f0, f1, HF, HL, HT, HB⟩ := hrel
   clear c0 c1 c2 lt bn
   obtain ⟨c0, c1, c2, lt⟩ := HT.out
   have bn := HB.out
   by_cases hlt : q < k
   ·obtain ⟨e0, e1, e2, -⟩ := pd_in HC.out ⟨q0, hlt⟩
    obtain ⟨a0, a1, -⟩ := cl_month HC.out ⟨q0, hlt⟩
    have h2 := fun w => cfirst7_any y m k q w
    have h3 := fun w => clast7_any y m k q w
    rw [e0, e1] at h2
    rw [e0, e2] at h3
    have H2 := Lib.hid h2
    have H3 := Lib.hid h3
    have hm2 := mfst_succ (mno y m + q) a0
    have hm3 := mln_bd (mno y m + q)
    have hb1 := mfst_bd (T := mno y m + q) a0 (by omega)
    have hb2 := mfst_bd (T := mno y m + q + 1) (by omega) (by omega)
    have hfl : mfst (mno y m + q) ≤ mfst (mno y m + q + 1) - 1 := by omega
    have hfl2 : decide (mfst (mno y m + q + 1) - 1 < mfst (mno y m + q)) = false := decide_eq_false (by omega)
    have hnext : Hid (0 < q + 1 → mfst (mno y m + q + 1) - 1 = mfst (mno y m + (q + 1)) - 1) := Lib.hid (fun _ => by rw [show mno y m + (q + 1) = mno y m + q + 1 by omega])
    have hq : decide (0 < q) = false ∨ 0 < q := by
     by_cases h9 : 0 < q
     ·exact .inr h9
     ·exact .inl (decide_eq_false h9)
    by_cases hin : mfst (mno y m + q) ≤ n ∧ n < mfst (mno y m + q + 1)
    ·have hF2 := Lib.hid (fnd_hit HC.out ⟨q0, hlt⟩ hin.1 hin.2)
     obtain ⟨i1, i2⟩ := hin
     have i3 : n ≤ mfst (mno y m + q + 1) - 1 := by omega
     clear i2 h2 h3 e0 e1 e2 hm2 hm3
     rcases hq with hq | hq
     ·go_wp2_with (first | (go_at_call 15; refine (H2.out _).mono ?_; rintro e w' ⟨rfl, hb⟩; replace bn := below_more bn hb; replace HT := Lib.hid (HT.out.up hb); clear c0 c1 c2 lt hb; obtain ⟨c0, c1, c2, lt⟩ := HT.out) | (go_at_call 17; refine (H3.out _).mono ?_; rintro e w' ⟨rfl, hb⟩; replace bn := below_more bn hb; replace HT := Lib.hid (HT.out.up hb); clear c0 c1 c2 lt hb; obtain ⟨c0, c1, c2, lt⟩ := HT.out))
      go_roundw
      case rel => exact ⟨q + 1, q, _, rfl, rfl, rfl, by omega, by omega, by omega, by omega, hF2, hnext, HT, Lib.hid bn⟩
      case measure => simp [intOf]; omega
     ·obtain rfl := HL.out hq
      have hne : (mfst (mno y m + q) != mfst (mno y m + q) - 1 + 1) = false := by simp
      go_wp2_with (first | (go_at_call 15; refine (H2.out _).mono ?_; rintro e w' ⟨rfl, hb⟩; replace bn := below_more bn hb; replace HT := Lib.hid (HT.out.up hb); clear c0 c1 c2 lt hb; obtain ⟨c0, c1, c2, lt⟩ := HT.out) | (go_at_call 17; refine (H3.out _).mono ?_; rintro e w' ⟨rfl, hb⟩; replace bn := below_more bn hb; replace HT := Lib.hid (HT.out.up hb); clear c0 c1 c2 lt hb; obtain ⟨c0, c1, c2, lt⟩ := HT.out))
      go_roundw
      case rel => exact ⟨q + 1, q, _, rfl, rfl, rfl, by omega, by omega, by omega, by omega, hF2, hnext, HT, Lib.hid bn⟩
      case measure => simp [intOf]; omega
    ·have hF2 := Lib.hid (fnd_miss HC.out ⟨q0, hlt⟩ HF.out hin)
     have hnx : decide (mfst (mno y m + q) ≤ n) = false ∨ mfst (mno y m + q) ≤ n ∧ decide (n ≤ mfst (mno y m + q + 1) - 1) = false := by
      by_cases h9 : mfst (mno y m + q) ≤ n
      ·exact .inr ⟨h9, decide_eq_false (by omega)⟩
      ·exact .inl (decide_eq_false h9)
     clear hin h2 h3 e0 e1 e2 hm2 hm3
     rcases hq with hq | hq
     ·rcases hnx with hn1 | ⟨hn1, hn2⟩
      all_goals
       go_wp2_with (first | (go_at_call 15; refine (H2.out _).mono ?_; rintro e w' ⟨rfl, hb⟩; replace bn := below_more bn hb; replace HT := Lib.hid (HT.out.up hb); clear c0 c1 c2 lt hb; obtain ⟨c0, c1, c2, lt⟩ := HT.out) | (go_at_call 17; refine (H3.out _).mono ?_; rintro e w' ⟨rfl, hb⟩; replace bn := below_more bn hb; replace HT := Lib.hid (HT.out.up hb); clear c0 c1 c2 lt hb; obtain ⟨c0, c1, c2, lt⟩ := HT.out))
       go_roundw
       case rel => exact ⟨q + 1, fo, _, rfl, rfl, rfl, by omega, by omega, by omega, by omega, hF2, hnext, HT, Lib.hid bn⟩
       case measure => simp [intOf]; omega
     ·obtain rfl := HL.out hq
      have hne : (mfst (mno y m + q) != mfst (mno y m + q) - 1 + 1) = false := by simp
      rcases hnx with hn1 | ⟨hn1, hn2⟩
      all_goals
       go_wp2_with (first | (go_at_call 15; refine (H2.out _).mono ?_; rintro e w' ⟨rfl, hb⟩; replace bn := below_more bn hb; replace HT := Lib.hid (HT.out.up hb); clear c0 c1 c2 lt hb; obtain ⟨c0, c1, c2, lt⟩ := HT.out) | (go_at_call 17; refine (H3.out _).mono ?_; rintro e w' ⟨rfl, hb⟩; replace bn := below_more bn hb; replace HT := Lib.hid (HT.out.up hb); clear c0 c1 c2 lt hb; obtain ⟨c0, c1, c2, lt⟩ := HT.out))
       go_roundw
       case rel => exact ⟨q + 1, fo, _, rfl, rfl, rfl, by omega, by omega, by omega, by omega, hF2, hnext, HT, Lib.hid bn⟩
       case measure => simp [intOf]; omega
   ·obtain rfl : q = k := by omega
    have hqq : decide (q < q) = false := by simp
    have h4 := fun w => cperiod7_any y m q n w
    rcases fnd_end HC.out HF.out with ⟨g0, g1, g2⟩ | ⟨g0, g1, g2⟩
    ·rw [g1, g2] at h4
     have H4 := Lib.hid h4
     clear h4 g1 g2 hlt
     go_wp2_with (go_at_call 19; refine (H4.out _).mono ?_; rintro e w' ⟨rfl, hb⟩; replace bn := below_more bn hb; replace HT := Lib.hid (HT.out.up hb); clear c0 c1 c2 lt hb; obtain ⟨c0, c1, c2, lt⟩ := HT.out)
     go_ret
     exact ⟨rfl, bn⟩
    ·rw [g1, g2] at h4
     have H4 := Lib.hid h4
     have g3 : decide (fo < 0) = false := decide_eq_false (by omega)
     clear h4 g1 g2 hlt
     go_wp2_with (go_at_call 19; refine (H4.out _).mono ?_; rintro e w' ⟨rfl, hb⟩; replace bn := below_more bn hb; replace HT := Lib.hid (HT.out.up hb); clear c0 c1 c2 lt hb; obtain ⟨c0, c1, c2, lt⟩ := HT.out)
     go_ret
     exact ⟨dret_bool (by simp), bn⟩
end Go.Proofs.Ytdloccpcbcpdgaa
