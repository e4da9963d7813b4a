/- Contracts and the law of DecimalOrder, part 1: what was proved of each, callees first. -/
import Derived.Deep.QuietTactic
import Derived.BigQuiet
import Derived.OpenShut
import Derived.Outline
import Derived.Test.YtgihmikeapbpkabDoorB2
namespace Go.Proofs.YtgihmikeapbpkabDoor
open Go.RowKit
theorem upN_bd {x r n : Int} (h0 : 0 ≤ x) (h1 : x ≤ n) : 0 ≤ upN x r ∧ upN x r ≤ n + 1 := by
 unfold upN; by_cases h : r = 0
 ·rw [if_pos h]; omega
 ·rw [if_neg h]; omega
theorem rqN_bd {m x r d n : Int} {neg : Bool} (h0 : 0 ≤ x) (h1 : x ≤ n) : 0 ≤ rqN m neg x r d ∧ rqN m neg x r d ≤ n + 1 := by
 have hu := upN_bd (r := r) h0 h1
 unfold rqN
 repeat' split
 all_goals omega
theorem sgn_bd {neg : Bool} {a n : Int} (h0 : 0 ≤ a) (h1 : a ≤ n) : -n ≤ sgn neg a ∧ sgn neg a ≤ n := by
 unfold sgn; cases neg <;> simp <;> omega
theorem rnd_bd {m a b n : Int} (h1 : -n ≤ a) (h2 : a ≤ n) : -(n + 1) ≤ rnd m a b ∧ rnd m a b ≤ n + 1 := by
 have h := abs_div (a := a) (b := b)
 have h3 := rqN_bd (m := m) (neg := negB a b) (r := (a.natAbs : Int) % (b.natAbs : Int)) (d := (b.natAbs : Int)) h.1 (Int.le_trans h.2 (show (a.natAbs : Int) ≤ n by omega))
 exact sgn_bd h3.1 h3.2
theorem rnd_pos {m a d : Int} (ha : 0 ≤ a) (hd : 0 < d) : rnd m a d = rqN m false (a / d) (a % d) d := by
 unfold rnd
 rw [show (d.natAbs : Int) = d by omega, show (a.natAbs : Int) = a by omega, show negB a d = false by unfold negB; rw [decide_eq_false (by omega), decide_eq_false (by omega)]; rfl]
 rfl
theorem rnd_neg {m A d : Int} (ha : 0 < A) (hd : 0 < d) : rnd m (-A) d = -(rqN m true (A / d) (A % d) d) := by
 unfold rnd
 rw [show (d.natAbs : Int) = d by omega, show ((-A).natAbs : Int) = A by omega, show negB (-A) d = true by unfold negB; rw [decide_eq_true (by omega), decide_eq_false (by omega)]; rfl]
 rfl
theorem upN_in (x r : Int) : x ≤ upN x r ∧ upN x r ≤ x + 1 := by unfold upN; split <;> omega
theorem rqN_in (m : Int) (n : Bool) (x r d : Int) : x ≤ rqN m n x r d ∧ rqN m n x r d ≤ x + 1 := by
 have h := upN_in x r
 unfold rqN
 repeat' split
 all_goals omega
theorem rqN_mono {m : Int} {n : Bool} {x y r t d : Int} (hm0 : 0 ≤ m) (hm1 : m ≤ 5) (hr : 0 ≤ r) (ht : t < d) (h : x < y ∨ x = y ∧ r ≤ t) : rqN m n x r d ≤ rqN m n y t d := by
 rcases h with h | ⟨rfl, h⟩
 ·have h1 := rqN_in m n x r d
  have h2 := rqN_in m n y t d
  omega
 ·have hu : upN x r ≤ upN x t := by
   unfold upN
   by_cases h1 : r = 0
   ·rw [if_pos h1]; split <;> omega
   ·rw [if_neg h1, if_neg (by omega)]; omega
  have h1 := upN_in x r
  have h2 := upN_in x t
  have hc : m = 0 ∨ m = 1 ∨ m = 2 ∨ m = 3 ∨ m = 4 ∨ m = 5 := by omega
  rcases hc with rfl | rfl | rfl | rfl | rfl | rfl
  ·simp only [rqN, if_true]
   split <;> split <;> omega
  ·simp only [rqN, show ¬ ((1 : Int) = 0) by omega, if_true, if_false]
   by_cases hx : x % 2 = 0
   ·simp only [hx, and_true]
    repeat' split
    all_goals omega
   ·simp only [hx, and_false, if_false]
    repeat' split
    all_goals omega
  ·simp [rqN]
  ·simpa [rqN] using hu
  ·cases n
   ·simp [rqN]
   ·simpa [rqN] using hu
  ·cases n
   ·simpa [rqN] using hu
   ·simp [rqN]
theorem lex_of_le {a b d : Int} (hd : 0 < d) (h : a ≤ b) : a / d < b / d ∨ a / d = b / d ∧ a % d ≤ b % d := by
 have h1 := Int.ediv_le_ediv hd h
 have h2 := Int.mul_ediv_add_emod a d
 have h3 := Int.mul_ediv_add_emod b d
 rcases Int.lt_or_eq_of_le h1 with h4 | h4
 ·exact .inl h4
 ·exact .inr ⟨h4, by rw [h4] at h2; omega⟩
theorem rnd_mono {m a b d : Int} (hm0 : 0 ≤ m) (hm1 : m ≤ 5) (hd : 0 < d) (h : a ≤ b) : rnd m a d ≤ rnd m b d := by
 by_cases ha : a < 0
 ·obtain ⟨A, rfl⟩ : ∃ A, a = -A := ⟨-a, by omega⟩
  by_cases hb : b < 0
  ·obtain ⟨B, rfl⟩ : ∃ B, b = -B := ⟨-b, by omega⟩
   rw [rnd_neg (by omega) hd, rnd_neg (by omega) hd]
   have := rqN_mono (n := true) hm0 hm1 (Int.emod_nonneg B (by omega)) (Int.emod_lt_of_pos A hd) (lex_of_le hd (show B ≤ A by omega))
   omega
  ·rw [rnd_neg (by omega) hd, rnd_pos (by omega) hd]
   have h1 := (rqN_in m true (A / d) (A % d) d).1
   have h2 := (rqN_in m false (b / d) (b % d) d).1
   have h3 : 0 ≤ A / d := Int.ediv_nonneg (by omega) (by omega)
   have h4 : 0 ≤ b / d := Int.ediv_nonneg (by omega) (by omega)
   omega
 ·rw [rnd_pos (by omega) hd, rnd_pos (by omega) hd]
  exact rqN_mono hm0 hm1 (Int.emod_nonneg a (by omega)) (Int.emod_lt_of_pos b hd) (lex_of_le hd h)
open AS (Keep NoInt)
theorem dc_drewN {B : Nat} {a w : World} (h : Below B a w) (n : Nat) : Below B a (w.drewN n) := ⟨h.os, h.tape, h.output, h.size, h.block⟩
theorem round_ok {m a d : Int} (hm0 : 0 ≤ m) (hm1 : m ≤ 5) (ha : -1000000000000000000 ≤ a ∧ a ≤ 1000000000000000000) (hd : -1000000000000000000 ≤ d ∧ d ≤ 1000000000000000000) (h0 : d ≠ 0) (w : World) :
  Calls Tryd.prog 11 #[.int .i64 a, .int .i64 d, .int .i64 m] w fun e w' => e = .returned (.tuple #[.int .i64 (rnd m a d), .int .i64 0]) ∧ Below w.heap.size w w' := by
 have hE : roundE a d m = 0 := by
  unfold roundE
  rw [if_pos (show modeB m = true by simp [modeB]; omega), if_pos (show (termB a && termB d) = true by simp [termB]; omega), if_neg h0]
 have h := round_any a d m w
 rw [show roundV a d m = rnd m a d by unfold roundV; rw [if_pos hE], hE] at h
 exact h
set_option maxHeartbeats 3200000 in
theorem law_dorder0 (a0 a1 b0 b1 : Int) (w : World) (ht : DTab w.heap.size w) : Calls Tryd.prog 4 #[.agg #[.int .i16 a0, .int .i16 a1], .agg #[.int .i16 b0, .int .i16 b1], .int .u16 0] w fun e w' => e = .returned (.bool true) ∧ Below w.heap.size w w' := by
 have HT := Lib.hid ht
 clear ht
 have hB : Below w.heap.size w ((w.alloc (.cells #[.int .i16 a0, .int .i16 a1] 30)).alloc (.cells #[.int .i16 b0, .int .i16 b1] 30)) := ((Below.refl _ _).alloc (Nat.le_refl _) _).alloc (by simp) _
 have K1 : Hid (C2 ((w.alloc (.cells #[.int .i16 a0, .int .i16 a1] 30)).alloc (.cells #[.int .i16 b0, .int .i16 b1] 30)) w.heap.size (.int .i16 a0) (.int .i16 a1)) := Lib.hid ⟨by simp, by simp, by simp; omega⟩
 have K2 : Hid (C2 ((w.alloc (.cells #[.int .i16 a0, .int .i16 a1] 30)).alloc (.cells #[.int .i16 b0, .int .i16 b1] 30)) (w.heap.size + 1) (.int .i16 b0) (.int .i16 b1)) := Lib.hid ⟨by simp, by simp, by simp⟩
 go_enter Tryd.func4, Tryd.ntmps4
 go_wp2_with (go_at_call 9; refine (dawake_any _ (DTab.up HT.out hB)).mono ?_; rintro e w' ⟨rfl, hb⟩; replace hB := below_more hB hb; replace K1 := c2up K1 hb; replace K2 := c2up K2 hb; clear hb; obtain ⟨p1, p2, p3⟩ := K1.out; obtain ⟨q1, q2, q3⟩ := K2.out)
 go_ret
 exact ⟨rfl, hB⟩
set_option maxRecDepth 20000 in
set_option maxHeartbeats 6400000 in
theorem law_dorder (a0 a1 b0 b1 d : Int) (w : World) (ht : DTab w.heap.size w) (wa0 : -32768 ≤ a0 ∧ a0 ≤ 32767) (wa1 : -32768 ≤ a1 ∧ a1 ≤ 32767) (wb0 : -32768 ≤ b0 ∧ b0 ≤ 32767) (wb1 : -32768 ≤ b1 ∧ b1 ≤ 32767) (hd : 0 < d) (hd2 : d ≤ 65535) :
  Calls Tryd.prog 4 #[.agg #[.int .i16 a0, .int .i16 a1], .agg #[.int .i16 b0, .int .i16 b1], .int .u16 d] w fun e w' => e = .returned (.bool true) ∧ Below w.heap.size w w' := by
 have HT := Lib.hid ht
 clear ht
 have hB : Below w.heap.size w ((w.alloc (.cells #[.int .i16 a0, .int .i16 a1] 30)).alloc (.cells #[.int .i16 b0, .int .i16 b1] 30)) := ((Below.refl _ _).alloc (Nat.le_refl _) _).alloc (by simp) _
 have K1 : Hid (C2 ((w.alloc (.cells #[.int .i16 a0, .int .i16 a1] 30)).alloc (.cells #[.int .i16 b0, .int .i16 b1] 30)) w.heap.size (.int .i16 a0) (.int .i16 a1)) := Lib.hid ⟨by simp, by simp, by simp; omega⟩
 have K2 : Hid (C2 ((w.alloc (.cells #[.int .i16 a0, .int .i16 a1] 30)).alloc (.cells #[.int .i16 b0, .int .i16 b1] 30)) (w.heap.size + 1) (.int .i16 b0) (.int .i16 b1)) := Lib.hid ⟨by simp, by simp, by simp⟩
 obtain ⟨wa2, wa3⟩ := wa0
 obtain ⟨wa4, wa5⟩ := wa1
 obtain ⟨wb2, wb3⟩ := wb0
 obtain ⟨wb4, wb5⟩ := wb1
 have hd0 : (d == 0) = false := by simp; omega
 obtain ⟨x, hx⟩ : ∃ x, 100000 * a0 + a1 = x := ⟨_, rfl⟩
 obtain ⟨y, hy⟩ : ∃ y, 100000 * b0 + b1 = y := ⟨_, rfl⟩
 have hxb : -4000000000 ≤ x ∧ x ≤ 4000000000 := by omega
 have hyb : -4000000000 ≤ y ∧ y ≤ 4000000000 := by omega
 have hxw : IntKind.i64.wrap (100000 * a0 + a1) = x := by rw [hx, IntKind.wrap_i64]; omega
 have hyw : IntKind.i64.wrap (100000 * b0 + b1) = y := by rw [hy, IntKind.wrap_i64]; omega
 have hxw1 : IntKind.i64.wrap (100000 * a0) = 100000 * a0 := by rw [IntKind.wrap_i64]; omega
 have hyw1 : IntKind.i64.wrap (100000 * b0) = 100000 * b0 := by rw [IntKind.wrap_i64]; omega
 have ca0 : IntKind.i64.wrap a0 = a0 := by rw [IntKind.wrap_i64]; omega
 have ca1 : IntKind.i64.wrap a1 = a1 := by rw [IntKind.wrap_i64]; omega
 have cb0 : IntKind.i64.wrap b0 = b0 := by rw [IntKind.wrap_i64]; omega
 have cb1 : IntKind.i64.wrap b1 = b1 := by rw [IntKind.wrap_i64]; omega
 clear hx hy
 have HXW := Lib.hid hxw
 have HYW := Lib.hid hyw
 have HW1 := Lib.hid hxw1
 have HW2 := Lib.hid hyw1
 have C0 := Lib.hid ca0
 have C1 := Lib.hid ca1
 have C2 := Lib.hid cb0
 have C3 := Lib.hid cb1
 clear hxw hyw hxw1 hyw1 ca0 ca1 cb0 cb1
 go_enter Tryd.func4, Tryd.ntmps4
 go_wp2_with (go_at_call 9; refine (dawake_any _ (DTab.up HT.out hB)).mono ?_; rintro e w' ⟨rfl, hb⟩; replace hB := below_more hB hb; replace K1 := c2up K1 hb; replace K2 := c2up K2 hb; clear hb; obtain ⟨p1, p2, p3⟩ := K1.out; obtain ⟨q1, q2, q3⟩ := K2.out)
 have o0 := C0.out
 have o1 := C1.out
 have o2 := C2.out
 have o3 := C3.out
 have o4 := HW1.out
 have o5 := HW2.out
 have o6 := HXW.out
 have o7 := HYW.out
 go_quiet (fail)
 clear o0 o1 o2 o3 o4 o5 o6 o7
 by_cases hxy : y < x
 ·have HXY := Lib.hid (show y ≤ x by omega)
  have HXB := Lib.hid hyb
  have HYB := Lib.hid hxb
  go_wp2_with fail
  replace hB := dc_drewN hB nq
  clear hxy hxb hyb p1 p2 p3 q1 q2 q3 K1 K2 wa2 wa3 wa4 wa5 wb2 wb3 wb4 wb5
  go_loopw [9] (fun i wr => ∃ k : Nat, k ≤ 6 ∧ i = .int .i64 k ∧ Below w.heap.size w wr) (fun i _ => 6 - (intOf i).toNat)
  case atStart => exact ⟨0, by omega, rfl, hB⟩
  case round =>
   obtain ⟨k, hk, rfl, hB⟩ := hrel
   by_cases hlt : k < 6
   ·have hx := fun w => round_ok (m := (k : Int)) (a := y) (d := d) (by omega) (by omega) (by have := HXB.out; omega) (by omega) (by omega) w
    have hy := fun w => round_ok (m := (k : Int)) (a := x) (d := d) (by omega) (by omega) (by have := HYB.out; omega) (by omega) (by omega) w
    have hm := rnd_mono (m := (k : Int)) (d := d) (by omega) (by omega) (by omega) HXY.out
    have bx := rnd_bd (m := (k : Int)) (a := y) (b := d) (n := 1000000000000000000) (by have := HXB.out; omega) (by have := HXB.out; omega)
    generalize rnd (k : Int) y d = p at *
    generalize rnd (k : Int) x d = q at *
    have hqp : decide (q < p) = false := decide_eq_false (by omega)
    have HX := Lib.hid hx
    have HY := Lib.hid hy
    clear hx hy hm bx
    go_wp2_with (go_at_call 11; first | ((with_reducible refine (HX.out _).mono ?_); rintro e w' ⟨rfl, hb⟩; replace hB := below_more hB hb; clear hb) | ((with_reducible refine (HY.out _).mono ?_); rintro e w' ⟨rfl, hb⟩; replace hB := below_more hB hb; clear hb))
    go_roundw
    case rel => exact ⟨k + 1, by omega, by go_num, hB⟩
    case measure => simp [intOf]; omega
   ·obtain rfl : k = 6 := by omega
    go_wp2_with fail
    go_ret
    exact ⟨rfl, hB⟩
 ·have hxy1 : decide (y < x) = false := decide_eq_false hxy
  have HXY := Lib.hid (show x ≤ y by omega)
  have HXB := Lib.hid hxb
  have HYB := Lib.hid hyb
  go_wp2_with fail
  replace hB := dc_drewN hB nq
  clear hxy hxy1 hxb hyb p1 p2 p3 q1 q2 q3 K1 K2 wa2 wa3 wa4 wa5 wb2 wb3 wb4 wb5
  go_loopw [9] (fun i wr => ∃ k : Nat, k ≤ 6 ∧ i = .int .i64 k ∧ Below w.heap.size w wr) (fun i _ => 6 - (intOf i).toNat)
  case atStart => exact ⟨0, by omega, rfl, hB⟩
  case round =>
   obtain ⟨k, hk, rfl, hB⟩ := hrel
   by_cases hlt : k < 6
   ·have hx := fun w => round_ok (m := (k : Int)) (a := x) (d := d) (by omega) (by omega) (by have := HXB.out; omega) (by omega) (by omega) w
    have hy := fun w => round_ok (m := (k : Int)) (a := y) (d := d) (by omega) (by omega) (by have := HYB.out; omega) (by omega) (by omega) w
    have hm := rnd_mono (m := (k : Int)) (d := d) (by omega) (by omega) (by omega) HXY.out
    have bx := rnd_bd (m := (k : Int)) (a := x) (b := d) (n := 1000000000000000000) (by have := HXB.out; omega) (by have := HXB.out; omega)
    generalize rnd (k : Int) x d = p at *
    generalize rnd (k : Int) y d = q at *
    have hqp : decide (q < p) = false := decide_eq_false (by omega)
    have HX := Lib.hid hx
    have HY := Lib.hid hy
    clear hx hy hm bx
    go_wp2_with (go_at_call 11; first | ((with_reducible refine (HX.out _).mono ?_); rintro e w' ⟨rfl, hb⟩; replace hB := below_more hB hb; clear hb) | ((with_reducible refine (HY.out _).mono ?_); rintro e w' ⟨rfl, hb⟩; replace hB := below_more hB hb; clear hb))
    go_roundw
    case rel => exact ⟨k + 1, by omega, by go_num, hB⟩
    case measure => simp [intOf]; omega
   ·obtain rfl : k = 6 := by omega
    go_wp2_with fail
    go_ret
    exact ⟨rfl, hB⟩
theorem law_dorder_all (a0 a1 b0 b1 d : Int) (w : World) (ht : DTab w.heap.size w) (wa0 : (Lit.int .i16 a0).wf = true) (wa1 : (Lit.int .i16 a1).wf = true) (wb0 : (Lit.int .i16 b0).wf = true) (wb1 : (Lit.int .i16 b1).wf = true) (wd : (Lit.int .u16 d).wf = true) :
  Calls Tryd.prog 4 #[.agg #[.int .i16 a0, .int .i16 a1], .agg #[.int .i16 b0, .int .i16 b1], .int .u16 d] w fun e w' => e = .returned (.bool true) ∧ Below w.heap.size w w' := by
 have hd := bounds_u16 wd
 by_cases h : d = 0
 ·subst h; exact law_dorder0 a0 a1 b0 b1 w ht
 ·exact law_dorder a0 a1 b0 b1 d w ht (bounds_i16 wa0) (bounds_i16 wa1) (bounds_i16 wb0) (bounds_i16 wb1) (by omega) hd.2
end Go.Proofs.YtgihmikeapbpkabDoor
