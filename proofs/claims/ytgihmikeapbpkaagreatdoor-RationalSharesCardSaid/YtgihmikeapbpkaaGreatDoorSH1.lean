/- Contracts and the law of RationalShares, part 1: what was proved of each, callees first. -/
import Derived.Test.YtgihmikeapbpkaaGreatDoorK10
namespace Go.Proofs.YtgihmikeapbpkaaGreatDoor
open Go.RowKit
theorem rndI_near (a b : Int) (hb : 0 < b) : 2 * a - 2 * (rndI a b * b) ≤ b ∧ -b ≤ 2 * a - 2 * (rndI a b * b) := by
 unfold rndI
 split
 ·have h1 := Int.emod_add_mul_ediv (2 * -a + b) (2 * b)
  have h2 := Int.emod_nonneg (2 * -a + b) (b := 2 * b) (by omega)
  have h3 := Int.emod_lt_of_pos (2 * -a + b) (b := 2 * b) (by omega)
  generalize (2 * -a + b) / (2 * b) = q at *
  generalize (2 * -a + b) % (2 * b) = r at *
  have h4 : 2 * b * q = 2 * (q * b) := by grind
  rw [Int.neg_mul]
  omega
 ·have h1 := Int.emod_add_mul_ediv (2 * a + b) (2 * b)
  have h2 := Int.emod_nonneg (2 * a + b) (b := 2 * b) (by omega)
  have h3 := Int.emod_lt_of_pos (2 * a + b) (b := 2 * b) (by omega)
  generalize (2 * a + b) / (2 * b) = q at *
  generalize (2 * a + b) % (2 * b) = r at *
  have h4 : 2 * b * q = 2 * (q * b) := by grind
  omega
theorem rndI_neg (a b : Int) (hb : 0 < b) : rndI (-a) b = -rndI a b := by
 unfold rndI
 rcases Int.lt_trichotomy a 0 with h | h | h
 ·rw [if_neg (by omega), if_pos h, Int.neg_neg]
 ·subst h
  have : b / (2 * b) = 0 := Int.ediv_eq_zero_of_lt (by omega) (by omega)
  simp [this]
 ·rw [if_pos (by omega), if_neg (by omega), Int.neg_neg]
theorem rndQ_neg (x : Rat) : rndQ (-x) = -rndQ x := rndI_neg _ _ (Int.natCast_pos.2 x.den_pos)
theorem sub_int_le (x : Rat) (n : Int) (h : 2 * x.num - 2 * (n * x.den) ≤ x.den) : x - (n : Rat) ≤ 1 / 2 := by
 rw [Rat.sub_right_le_iff_le_add]
 have e : (1 / 2 + (n : Rat)) = Rat.divInt (1 + 2 * n) 2 := by
  rw [Rat.divInt_eq_div]
  simp only [Rat.intCast_add, Rat.intCast_mul]
  grind
 rw [e]
 have h2 : Rat.divInt x.num x.den = x := Rat.num_divInt_den x
 have hd : 0 < (x.den : Int) := by have := x.den_pos; omega
 generalize x.num = p at *
 generalize (x.den : Int) = q at *
 subst h2
 rw [Rat.le_iff_sub_nonneg, Rat.divInt_sub_divInt _ _ (by decide) (by omega)]
 refine Rat.divInt_nonneg ?_ (by omega)
 have : (1 + 2 * n) * q = q + 2 * (n * q) := by grind
 omega
theorem rndQ_near (x : Rat) : x - (rndQ x : Rat) ≤ 1 / 2 ∧ -(1 / 2) ≤ x - (rndQ x : Rat) := by
 have h := rndI_near x.num x.den (Int.natCast_pos.2 x.den_pos)
 refine ⟨sub_int_le x _ h.1, ?_⟩
 have h2 := sub_int_le (-x) (rndQ (-x)) (by
  rw [rndQ_neg]
  show 2 * -x.num - 2 * (-rndQ x * x.den) ≤ x.den
  have := h.2
  unfold rndQ
  rw [Int.neg_mul]
  omega)
 rw [rndQ_neg, Rat.intCast_neg] at h2
 grind
theorem rndQ_shares (x y : Rat) : rndQ (x + y) - rndQ x - rndQ y ≤ 1 ∧ -1 ≤ rndQ (x + y) - rndQ x - rndQ y := by
 have h1 := rndQ_near x
 have h2 := rndQ_near y
 have h3 := rndQ_near (x + y)
 have a : ((rndQ (x + y) - rndQ x - rndQ y : Int) : Rat) < ((2 : Int) : Rat) := by
  simp only [Rat.intCast_sub]; grind
 have b : ((-2 : Int) : Rat) < ((rndQ (x + y) - rndQ x - rndQ y : Int) : Rat) := by
  simp only [Rat.intCast_sub]; grind
 rw [Rat.intCast_lt_intCast] at a b
 omega
open AS (Keep NoInt)
set_option maxHeartbeats 800000 in
theorem ramount_fact (n : Int) (w : World) : Calls Tryz.prog 49 #[.int .i64 n] w fun e w' => e = .returned (.bool (amt n)) ∧ Below w.heap.size w w' := by
 unfold amt
 by_cases h1 : (-1000000000000 : Int) ≤ n
 ·by_cases h2 : n ≤ 1000000000000
  ·rw [decide_eq_true h1, decide_eq_true h2]
   go_enter Tryz.func49, Tryz.ntmps49
   go_wp2
   go_ret
   exact ⟨rfl, Below.refl _ _⟩
  ·rw [decide_eq_true h1, decide_eq_false h2]
   have h3 : decide (n ≤ 1000000000000) = false := decide_eq_false h2
   clear h2
   go_enter Tryz.func49, Tryz.ntmps49
   go_wp2
   go_ret
   exact ⟨rfl, Below.refl _ _⟩
 ·rw [decide_eq_false h1]
  have h3 : decide ((-1000000000000 : Int) ≤ n) = false := decide_eq_false h1
  clear h1
  go_enter Tryz.func49, Tryz.ntmps49
  go_wp2
  go_ret
  exact ⟨rfl, Below.refl _ _⟩
theorem ramount_is {n : Int} {b : Bool} (hn : amt n = b) (w : World) : Calls Tryz.prog 49 #[.int .i64 n] w fun e w' => e = .returned (.bool b) ∧ Below w.heap.size w w' := hn ▸ ramount_fact n w
theorem wrap64 {a b : Int} (h1 : -1000000000000 ≤ a ∧ a ≤ 1000000000000) (h2 : -1000000000000 ≤ b ∧ b ≤ 1000000000000) : IntKind.i64.wrap (a + b) = a + b := by
 rw [IntKind.wrap_i64]; omega
theorem wrap64s {a b : Int} (h1 : -3000000000000 ≤ a ∧ a ≤ 3000000000000) (h2 : -1000000000000 ≤ b ∧ b ≤ 1000000000000) : IntKind.i64.wrap (a - b) = a - b := by
 rw [IntKind.wrap_i64]; omega
theorem scale_good {a z : Int} {x : Rat} (ha : amt a = true) (h : scaleN a x = z ∧ scaleE a x = 0) : z = rndQ ((a : Rat) * x) ∧ -1000000000000 ≤ z ∧ z ≤ 1000000000000 := by
 obtain ⟨rfl, h2⟩ := h
 unfold scaleE at h2
 rw [if_pos ha] at h2
 unfold scaleN
 by_cases h3 : amt (rndQ ((a : Rat) * x)) = true
 ·rw [ha, h3]
  exact ⟨rfl, amt_range h3⟩
 ·rw [if_neg h3] at h2
  exact absurd h2 (by decide)
theorem shares_d {a b c z1 z2 z3 : Int} {x : Rat} (hc : a + b = c) (ha : amt a = true) (hb : amt b = true) (hcc : amt c = true) (h1 : scaleN a x = z1 ∧ scaleE a x = 0) (h2 : scaleN b x = z2 ∧ scaleE b x = 0) (h3 : scaleN c x = z3 ∧ scaleE c x = 0) :
  IntKind.i64.wrap (z3 - z1) = z3 - z1 ∧ IntKind.i64.wrap (z3 - z1 - z2) = z3 - z1 - z2 ∧ -1 ≤ z3 - z1 - z2 ∧ z3 - z1 - z2 ≤ 1 := by
 obtain ⟨g1, r1⟩ := scale_good ha h1
 obtain ⟨g2, r2⟩ := scale_good hb h2
 obtain ⟨g3, r3⟩ := scale_good hcc h3
 have hs := rndQ_shares ((a : Rat) * x) ((b : Rat) * x)
 rw [← Rat.add_mul, ← Rat.intCast_add, hc, ← g1, ← g2, ← g3] at hs
 exact ⟨wrap64s (by omega) (by omega), wrap64s (by omega) (by omega), hs.2, hs.1⟩
set_option maxRecDepth 20000 in
set_option maxHeartbeats 6400000 in
theorem law_shares (a b : Int) (s : ByteArray) (w : World) (hm : MaxOk w) (ht : Tab w.heap.size w) (hr : True) :
  Calls Tryz.prog 11 #[.int .i64 a, .int .i64 b, .string s] w fun e w' => e = .returned (.bool true) ∧ Below w.heap.size w w' := by
 have HM := Lib.hid hm
 have HT := Lib.hid ht
 have HR := Lib.hid hr
 clear hm ht hr
 obtain ⟨z1, e1, hs1⟩ : ∃ r e, scaleN a (ratV s.data.toList) = r ∧ scaleE a (ratV s.data.toList) = e := ⟨_, _, rfl, rfl⟩
 obtain ⟨z2, e2, hs2⟩ : ∃ r e, scaleN b (ratV s.data.toList) = r ∧ scaleE b (ratV s.data.toList) = e := ⟨_, _, rfl, rfl⟩
 obtain ⟨c, hc⟩ : ∃ c, a + b = c := ⟨_, rfl⟩
 obtain ⟨z3, e3, hs3⟩ : ∃ r e, scaleN c (ratV s.data.toList) = r ∧ scaleE c (ratV s.data.toList) = e := ⟨_, _, rfl, rfl⟩
 have HS1 := Lib.hid hs1
 have HS2 := Lib.hid hs2
 have HS3 := Lib.hid hs3
 have HC := Lib.hid hc
 clear hs1 hs2 hs3 hc
 go_enter Tryz.func11, Tryz.ntmps11
 go_wp2_with fail
 refine (awake_fact HT.out).mono ?_
 rintro e W1 ⟨rfl, hb⟩
 have nbel := hb
 have HB2 := Lib.hid nbel
 clear nbel hb
 have szb := HB2.out.size
 go_wp2_with fail
 refine (both_fact s _ _ (HM.out.up HB2.out)).mono ?_
 rintro e W3 ⟨k1, A1, l1, c1, m1, E1, p1, q1, k2, A2, l2, c2, m2, E2, p2, q2, k3, A3, l3, c3, m3, E3, p3, q3, k4, A4, l4, c4, m4, E4, p4, q4, ok, rfl, hv, hb⟩
 have nbel := below_then HB2.out hb HB2.out.size
 have HB4 := Lib.hid nbel
 clear nbel HB2 hb szb
 have szb := HB4.out.size
 have HB0 := Lib.hid (OkP.mk hv)
 clear hv
 go_upto_region 4 with (fail)
 change Code.wp Tryz.prog _ _ _ ((((W3.alloc (.cells #[.bool k1, .slice A1 l1 c1, .bool m1, .slice E1 p1 q1] 27)).alloc (.cells #[.bool k2, .slice A2 l2 c2, .bool m2, .slice E2 p2 q2] 27)).alloc (.cells #[.bool k3, .slice A3 l3 c3, .bool m3, .slice E3 p3 q3] 35)).alloc (.cells #[.bool k4, .slice A4 l4 c4, .bool m4, .slice E4 p4 q4] 35))
 obtain ⟨nb7, nb8, nb9, nb10, na⟩ := new4 W3 27 [.bool k1, .slice A1 l1 c1, .bool m1, .slice E1 p1 q1] 27 [.bool k2, .slice A2 l2 c2, .bool m2, .slice E2 p2 q2] 35 [.bool k3, .slice A3 l3 c3, .bool m3, .slice E3 p3 q3] 35 [.bool k4, .slice A4 l4 c4, .bool m4, .slice E4 p4 q4] lf4 lf4 lf4 lf4
 have nkeep := Keep.ofBelow na
 have nbel := below_then HB4.out na HB4.out.size
 generalize (((W3.alloc (.cells #[.bool k1, .slice A1 l1 c1, .bool m1, .slice E1 p1 q1] 27)).alloc (.cells #[.bool k2, .slice A2 l2 c2, .bool m2, .slice E2 p2 q2] 27)).alloc (.cells #[.bool k3, .slice A3 l3 c3, .bool m3, .slice E3 p3 q3] 35)).alloc (.cells #[.bool k4, .slice A4 l4 c4, .bool m4, .slice E4 p4 q4] 35) = W5 at *
 clear na szb
 have b7 := Lib.hid nb7
 have b8 := Lib.hid nb8
 have b9 := Lib.hid nb9
 have b10 := Lib.hid nb10
 clear nb7 nb8 nb9 nb10
 replace HB0 := Lib.hid (HB0.out.kept nkeep)
 clear nkeep
 have HB6 := Lib.hid nbel
 clear nbel HB4
 obtain ⟨x7_0, x7_1, x7_2, x7_3, s7⟩ := b7.out.d4
 obtain ⟨x8_0, x8_1, x8_2, x8_3, s8⟩ := b8.out.d4
 obtain ⟨x9_0, x9_1, x9_2, x9_3, s9⟩ := b9.out.d4
 obtain ⟨x10_0, x10_1, x10_2, x10_3, s10⟩ := b10.out.d4
 have szb := HB6.out.size
 cases ok with
 | false =>
  go_wp2_with fail
  have hkeep := (Keep.refl W5)
  have hbel := HB6.out
  refine bodyPost_ret (v := .bool true) (by simp [results, Tryz.results11, go_sem]) rfl ⟨rfl, hbel⟩
 | true =>
  have HX := Lib.hid (HB0.out.go rfl).1
  clear HB0
  cases HA : amt a with
  | false =>
   go_wp2_with fail
   refine (ramount_is HA _).mono ?_
   rintro e W7 ⟨rfl, hb⟩
   replace b7 := hup b7 hb
   replace b8 := hup b8 hb
   replace b9 := hup b9 hb
   replace b10 := hup b10 hb
   replace HX := Lib.hid (HX.out.kept (Keep.ofBelow hb))
   have nbel := below_then HB6.out hb HB6.out.size
   have HB8 := Lib.hid nbel
   clear nbel HB6 hb x7_0 x7_1 x7_2 x7_3 x8_0 x8_1 x8_2 x8_3 x9_0 x9_1 x9_2 x9_3 x10_0 x10_1 x10_2 x10_3 szb s7 s8 s9 s10
   obtain ⟨x7_0, x7_1, x7_2, x7_3, s7⟩ := b7.out.d4
   obtain ⟨x8_0, x8_1, x8_2, x8_3, s8⟩ := b8.out.d4
   obtain ⟨x9_0, x9_1, x9_2, x9_3, s9⟩ := b9.out.d4
   obtain ⟨x10_0, x10_1, x10_2, x10_3, s10⟩ := b10.out.d4
   have szb := HB8.out.size
   go_wp2_with fail
   have hkeep := (Keep.refl W7)
   have hbel := HB8.out
   refine bodyPost_ret (v := .bool true) (by simp [results, Tryz.results11, go_sem]) rfl ⟨rfl, hbel⟩
  | true =>
   have HA2 := Lib.hid HA
   clear HA
   go_wp2_with fail
   refine (ramount_is HA2.out _).mono ?_
   rintro e W7 ⟨rfl, hb⟩
   replace b7 := hup b7 hb
   replace b8 := hup b8 hb
   replace b9 := hup b9 hb
   replace b10 := hup b10 hb
   replace HX := Lib.hid (HX.out.kept (Keep.ofBelow hb))
   have nbel := below_then HB6.out hb HB6.out.size
   have HB8 := Lib.hid nbel
   clear nbel HB6 hb x7_0 x7_1 x7_2 x7_3 x8_0 x8_1 x8_2 x8_3 x9_0 x9_1 x9_2 x9_3 x10_0 x10_1 x10_2 x10_3 szb s7 s8 s9 s10
   obtain ⟨x7_0, x7_1, x7_2, x7_3, s7⟩ := b7.out.d4
   obtain ⟨x8_0, x8_1, x8_2, x8_3, s8⟩ := b8.out.d4
   obtain ⟨x9_0, x9_1, x9_2, x9_3, s9⟩ := b9.out.d4
   obtain ⟨x10_0, x10_1, x10_2, x10_3, s10⟩ := b10.out.d4
   have szb := HB8.out.size
   cases HB : amt b with
   | false =>
    go_wp2_with fail
    refine (ramount_is HB _).mono ?_
    rintro e W9 ⟨rfl, hb⟩
    replace b7 := hup b7 hb
    replace b8 := hup b8 hb
    replace b9 := hup b9 hb
    replace b10 := hup b10 hb
    replace HX := Lib.hid (HX.out.kept (Keep.ofBelow hb))
    have nbel := below_then HB8.out hb HB8.out.size
    have HB10 := Lib.hid nbel
    clear nbel HB8 hb x7_0 x7_1 x7_2 x7_3 x8_0 x8_1 x8_2 x8_3 x9_0 x9_1 x9_2 x9_3 x10_0 x10_1 x10_2 x10_3 szb s7 s8 s9 s10
    obtain ⟨x7_0, x7_1, x7_2, x7_3, s7⟩ := b7.out.d4
    obtain ⟨x8_0, x8_1, x8_2, x8_3, s8⟩ := b8.out.d4
    obtain ⟨x9_0, x9_1, x9_2, x9_3, s9⟩ := b9.out.d4
    obtain ⟨x10_0, x10_1, x10_2, x10_3, s10⟩ := b10.out.d4
    have szb := HB10.out.size
    go_wp2_with fail
    have hkeep := (Keep.refl W9)
    have hbel := HB10.out
    refine bodyPost_ret (v := .bool true) (by simp [results, Tryz.results11, go_sem]) rfl ⟨rfl, hbel⟩
   | true =>
    have HB2_ := Lib.hid HB
    clear HB
    go_wp2_with fail
    refine (ramount_is HB2_.out _).mono ?_
    rintro e W9 ⟨rfl, hb⟩
    replace b7 := hup b7 hb
    replace b8 := hup b8 hb
    replace b9 := hup b9 hb
    replace b10 := hup b10 hb
    replace HX := Lib.hid (HX.out.kept (Keep.ofBelow hb))
    have nbel := below_then HB8.out hb HB8.out.size
    have HB10 := Lib.hid nbel
    clear nbel HB8 hb x7_0 x7_1 x7_2 x7_3 x8_0 x8_1 x8_2 x8_3 x9_0 x9_1 x9_2 x9_3 x10_0 x10_1 x10_2 x10_3 szb s7 s8 s9 s10
    obtain ⟨x7_0, x7_1, x7_2, x7_3, s7⟩ := b7.out.d4
    obtain ⟨x8_0, x8_1, x8_2, x8_3, s8⟩ := b8.out.d4
    obtain ⟨x9_0, x9_1, x9_2, x9_3, s9⟩ := b9.out.d4
    obtain ⟨x10_0, x10_1, x10_2, x10_3, s10⟩ := b10.out.d4
    have szb := HB10.out.size
    have hw1 : IntKind.i64.wrap (a + b) = c := by rw [← HC.out]; exact wrap64 (amt_range HA2.out) (amt_range HB2_.out)
    cases HCC : amt c with
    | false =>
     go_wp2_with fail
     refine (ramount_is HCC _).mono ?_
     rintro e W11 ⟨rfl, hb⟩
     replace b7 := hup b7 hb
     replace b8 := hup b8 hb
     replace b9 := hup b9 hb
     replace b10 := hup b10 hb
     replace HX := Lib.hid (HX.out.kept (Keep.ofBelow hb))
     have nbel := below_then HB10.out hb HB10.out.size
     have HB12 := Lib.hid nbel
     clear nbel HB10 hb x7_0 x7_1 x7_2 x7_3 x8_0 x8_1 x8_2 x8_3 x9_0 x9_1 x9_2 x9_3 x10_0 x10_1 x10_2 x10_3 szb s7 s8 s9 s10
     obtain ⟨x7_0, x7_1, x7_2, x7_3, s7⟩ := b7.out.d4
     obtain ⟨x8_0, x8_1, x8_2, x8_3, s8⟩ := b8.out.d4
     obtain ⟨x9_0, x9_1, x9_2, x9_3, s9⟩ := b9.out.d4
     obtain ⟨x10_0, x10_1, x10_2, x10_3, s10⟩ := b10.out.d4
     have szb := HB12.out.size
     go_wp2_with fail
     have hkeep := (Keep.refl W11)
     have hbel := HB12.out
     refine bodyPost_ret (v := .bool true) (by simp [results, Tryz.results11, go_sem]) rfl ⟨rfl, hbel⟩
    | true =>
     have HC2 := Lib.hid HCC
     clear HCC
     go_wp2_with fail
     refine (ramount_is HC2.out _).mono ?_
     rintro e W11 ⟨rfl, hb⟩
     replace b7 := hup b7 hb
     replace b8 := hup b8 hb
     replace b9 := hup b9 hb
     replace b10 := hup b10 hb
     replace HX := Lib.hid (HX.out.kept (Keep.ofBelow hb))
     have nbel := below_then HB10.out hb HB10.out.size
     have HB12 := Lib.hid nbel
     clear nbel HB10 hb x7_0 x7_1 x7_2 x7_3 x8_0 x8_1 x8_2 x8_3 x9_0 x9_1 x9_2 x9_3 x10_0 x10_1 x10_2 x10_3 szb s7 s8 s9 s10
     obtain ⟨x7_0, x7_1, x7_2, x7_3, s7⟩ := b7.out.d4
     obtain ⟨x8_0, x8_1, x8_2, x8_3, s8⟩ := b8.out.d4
     obtain ⟨x9_0, x9_1, x9_2, x9_3, s9⟩ := b9.out.d4
     obtain ⟨x10_0, x10_1, x10_2, x10_3, s10⟩ := b10.out.d4
     have szb := HB12.out.size
     go_wp2_with fail
     refine (ratScale_is HX.out (by decide) (by decide) HS1.out).mono ?_
     rintro e W13 ⟨rfl, hb⟩
     replace b7 := hup b7 hb
     replace b8 := hup b8 hb
     replace b9 := hup b9 hb
     replace b10 := hup b10 hb
     replace HX := Lib.hid (HX.out.kept (Keep.ofBelow hb))
     have nbel := below_then HB12.out hb HB12.out.size
     have HB14 := Lib.hid nbel
     clear nbel HB12 hb x7_0 x7_1 x7_2 x7_3 x8_0 x8_1 x8_2 x8_3 x9_0 x9_1 x9_2 x9_3 x10_0 x10_1 x10_2 x10_3 szb s7 s8 s9 s10
     obtain ⟨x7_0, x7_1, x7_2, x7_3, s7⟩ := b7.out.d4
     obtain ⟨x8_0, x8_1, x8_2, x8_3, s8⟩ := b8.out.d4
     obtain ⟨x9_0, x9_1, x9_2, x9_3, s9⟩ := b9.out.d4
     obtain ⟨x10_0, x10_1, x10_2, x10_3, s10⟩ := b10.out.d4
     have szb := HB14.out.size
     go_wp2_with fail
     refine (ratScale_is HX.out (by decide) (by decide) HS2.out).mono ?_
     rintro e W15 ⟨rfl, hb⟩
     replace b7 := hup b7 hb
     replace b8 := hup b8 hb
     replace b9 := hup b9 hb
     replace b10 := hup b10 hb
     replace HX := Lib.hid (HX.out.kept (Keep.ofBelow hb))
     have nbel := below_then HB14.out hb HB14.out.size
     have HB16 := Lib.hid nbel
     clear nbel HB14 hb x7_0 x7_1 x7_2 x7_3 x8_0 x8_1 x8_2 x8_3 x9_0 x9_1 x9_2 x9_3 x10_0 x10_1 x10_2 x10_3 szb s7 s8 s9 s10
     obtain ⟨x7_0, x7_1, x7_2, x7_3, s7⟩ := b7.out.d4
     obtain ⟨x8_0, x8_1, x8_2, x8_3, s8⟩ := b8.out.d4
     obtain ⟨x9_0, x9_1, x9_2, x9_3, s9⟩ := b9.out.d4
     obtain ⟨x10_0, x10_1, x10_2, x10_3, s10⟩ := b10.out.d4
     have szb := HB16.out.size
     go_wp2_with fail
     refine (ratScale_is HX.out (by decide) (by decide) HS3.out).mono ?_
     rintro e W17 ⟨rfl, hb⟩
     replace b7 := hup b7 hb
     replace b8 := hup b8 hb
     replace b9 := hup b9 hb
     replace b10 := hup b10 hb
     replace HX := Lib.hid (HX.out.kept (Keep.ofBelow hb))
     have nbel := below_then HB16.out hb HB16.out.size
     have HB18 := Lib.hid nbel
     clear nbel HB16 hb x7_0 x7_1 x7_2 x7_3 x8_0 x8_1 x8_2 x8_3 x9_0 x9_1 x9_2 x9_3 x10_0 x10_1 x10_2 x10_3 szb s7 s8 s9 s10
     obtain ⟨x7_0, x7_1, x7_2, x7_3, s7⟩ := b7.out.d4
     obtain ⟨x8_0, x8_1, x8_2, x8_3, s8⟩ := b8.out.d4
     obtain ⟨x9_0, x9_1, x9_2, x9_3, s9⟩ := b9.out.d4
     obtain ⟨x10_0, x10_1, x10_2, x10_3, s10⟩ := b10.out.d4
     have szb := HB18.out.size
     rcases (by omega : e1 ≠ 0 ∨ (e1 = 0 ∧ e2 ≠ 0) ∨ (e1 = 0 ∧ e2 = 0 ∧ e3 ≠ 0) ∨ (e1 = 0 ∧ e2 = 0 ∧ e3 = 0)) with hn | ⟨rfl, hn⟩ | ⟨rfl, rfl, hn⟩ | ⟨rfl, rfl, rfl⟩
     ·have hne : (e1 == 0) = false := by simpa using hn
      have hne2 : (e1 != 0) = true := by simpa using hn
      clear hn
      go_wp2_with fail
      have hkeep := (Keep.refl W17)
      have hbel := HB18.out
      refine bodyPost_ret (v := .bool true) (by simp [results, Tryz.results11, go_sem]) rfl ⟨rfl, hbel⟩
     ·have hne : (e2 == 0) = false := by simpa using hn
      have hne2 : (e2 != 0) = true := by simpa using hn
      clear hn
      go_wp2_with fail
      have hkeep := (Keep.refl W17)
      have hbel := HB18.out
      refine bodyPost_ret (v := .bool true) (by simp [results, Tryz.results11, go_sem]) rfl ⟨rfl, hbel⟩
     ·have hne : (e3 == 0) = false := by simpa using hn
      have hne2 : (e3 != 0) = true := by simpa using hn
      clear hn
      go_wp2_with fail
      have hkeep := (Keep.refl W17)
      have hbel := HB18.out
      refine bodyPost_ret (v := .bool true) (by simp [results, Tryz.results11, go_sem]) rfl ⟨rfl, hbel⟩
     ·have hd := shares_d HC.out HA2.out HB2_.out HC2.out HS1.out HS2.out HS3.out
      obtain ⟨d1, hd1⟩ : ∃ d, z3 - z1 = d := ⟨_, rfl⟩
      have hw2 : IntKind.i64.wrap (z3 - z1) = d1 := by rw [hd.1, hd1]
      obtain ⟨d2, hd2⟩ : ∃ d, z3 - z1 - z2 = d := ⟨_, rfl⟩
      have hw3 : IntKind.i64.wrap (d1 - z2) = d2 := by rw [← hd1, hd.2.1, hd2]
      have hd3 : decide (-1 ≤ d2) = true := by rw [← hd2]; simpa using hd.2.2.1
      have hd4 : decide (d2 ≤ 1) = true := by rw [← hd2]; simpa using hd.2.2.2
      clear hd hd1 hd2
      go_wp2_with fail
      have hkeep := (Keep.refl W17)
      have hbel := HB18.out
      refine bodyPost_ret (v := .bool true) (by simp [results, Tryz.results11, go_sem]) rfl ⟨rfl, hbel⟩
end Go.Proofs.YtgihmikeapbpkaaGreatDoor
