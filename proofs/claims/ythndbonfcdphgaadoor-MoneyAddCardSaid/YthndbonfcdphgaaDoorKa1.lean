/- Contracts and the law of MoneyAdd, part 1: what was proved of each, callees first. -/
import Derived.Deep.QuietTactic
import Derived.BigQuiet
import Derived.Outline
import Derived.Laws.AppendOwnNone
import Derived.OwnWalk
import Derived.Test.YthndbonfcdphgaaDoorK1
namespace Go.Proofs.YthndbonfcdphgaaDoor
theorem amtB_neg (n : Int) : amtB (-n) = amtB n := by
 unfold amtB
 rw [Bool.eq_iff_iff]
 simp only [Bool.and_eq_true, decide_eq_true_eq]
 omega
open Go.RowKit
theorem rmvalid_any (n : Int) (w : World) : Calls Tryd.prog 14 #[.int .i64 n] w fun e w' => e = .returned (.bool (amtB n)) ∧ w = w' := by
 unfold amtB
 by_cases h1 : (-1000000000000 : Int) ≤ n
 ·by_cases h2 : n ≤ 1000000000000
  ·rw [decide_eq_true h1, decide_eq_true h2]
   go_enter Tryd.func14, Tryd.ntmps14
   go_wp2
   go_ret
   exact ⟨rfl, rfl⟩
  ·rw [decide_eq_true h1, decide_eq_false h2]
   have h3 : decide (n ≤ 1000000000000) = false := decide_eq_false h2
   clear h2
   go_enter Tryd.func14, Tryd.ntmps14
   go_wp2
   go_ret
   exact ⟨rfl, rfl⟩
 ·rw [decide_eq_false h1]
  have h3 : decide ((-1000000000000 : Int) ≤ n) = false := decide_eq_false h1
  clear h1
  go_enter Tryd.func14, Tryd.ntmps14
  go_wp2
  go_ret
  exact ⟨rfl, rfl⟩
theorem checked_any (n : Int) (w : World) : Calls Tryd.prog 35 #[.int .i64 n] w fun e w' => e = .returned (.tuple #[.int .i64 (amV n), .int .i64 (amE n)]) ∧ w = w' := by
 unfold amV amE
 cases h : amtB n
 all_goals
  have HV := fun w => rmvalid_any n w
  rw [h] at HV
  have H := Lib.hid HV
  clear HV
  go_enter Tryd.func35, Tryd.ntmps35
  go_wp2_with (go_at_call 14; refine (H.out _).mono ?_; rintro e w' ⟨rfl, rfl⟩)
  go_ret2
  exact ⟨rfl, rfl⟩
def IntsAt (k : IntKind) (w : World) (A : Option Addr) (zs : List Int) : Prop := 0 < zs.length → ∃ b off, A = some ⟨b, off, none⟩ ∧ b < w.heap.size ∧ ∀ i, i < zs.length → w.cell? ⟨b, off + i, none⟩ = some (.int k (zs.getD i 0))
section
variable {k : IntKind} {e : TypeId} {w w' : World} {base B : Nat} {v : Value} {A : Option Addr} {L M zs : List Int}
end
open Go.RowKit
def sumE (zs : List Int) : Int := if zs.all amtB = true then amE zs.sum else 1
def sumV (zs : List Int) : Int := if zs.all amtB = true then amV zs.sum else 0
theorem take_sum (zs : List Int) (k : Nat) (h : k < zs.length) : (zs.take (k + 1)).sum = (zs.take k).sum + zs.getD k 0 := by
 rw [List.take_succ_eq_append_getElem h, List.sum_append, List.getD_eq_getElem?_getD, List.getElem?_eq_getElem h]
 simp
theorem take_all (zs : List Int) (k : Nat) (h : k < zs.length) : (zs.take (k + 1)).all amtB = ((zs.take k).all amtB && amtB (zs.getD k 0)) := by
 rw [List.take_succ_eq_append_getElem h, List.all_append, List.getD_eq_getElem?_getD, List.getElem?_eq_getElem h]
 simp
theorem all_no {zs : List Int} {k : Nat} (h : k < zs.length) (hk : amtB (zs.getD k 0) = false) : zs.all amtB = false := by
 rw [List.all_eq_false]
 refine ⟨zs[k], List.getElem_mem h, ?_⟩
 rw [List.getD_eq_getElem?_getD, List.getElem?_eq_getElem h] at hk
 simpa using hk
structure MS (zs : List Int) (k : Nat) (M R : Int) : Prop where
 ok : (zs.take k).all amtB = true
 sum : M * 1000000 + R = (zs.take k).sum
 m1 : -((k : Int) * 1000000) ≤ M
 m2 : M ≤ (k : Int) * 1000000
 r1 : -((k : Int) * 1000000) ≤ R
 r2 : R ≤ (k : Int) * 1000000
theorem MS.next {zs : List Int} {k : Nat} {M R x q r : Int} (h : MS zs k M R) (hk : k < zs.length) (hx : zs.getD k 0 = x) (hok : amtB x = true) (hq : x.tdiv 1000000 = q) (hr' : x.tmod 1000000 = r) : MS zs (k + 1) (M + q) (R + r) ∧ (-1000000 ≤ q ∧ q ≤ 1000000) ∧ (-1000000 ≤ r ∧ r ≤ 1000000) := by
 obtain ⟨a1, a2, a3, a4, a5, a6⟩ := h
 obtain ⟨x1, x2⟩ := amtB_is hok
 have e : 1000000 * x.tdiv 1000000 + x.tmod 1000000 = x := Int.mul_tdiv_add_tmod x 1000000
 have b1 : x.tmod 1000000 < 1000000 := Int.tmod_lt_of_pos _ (by omega)
 have b2 : -1000000 < x.tmod 1000000 := by have := Int.lt_tmod_of_pos x (show (0 : Int) < 1000000 by omega); omega
 rw [hq, hr'] at e
 rw [hr'] at b1 b2
 refine ⟨⟨?_, ?_, by omega, by omega, by omega, by omega⟩, ⟨by omega, by omega⟩, by omega, by omega⟩
 ·rw [take_all zs k hk, a1, hx, hok]; rfl
 ·rw [take_sum zs k hk, hx, ← a2]; omega
theorem sum_end {S M R q r : Int} (h : M * 1000000 + R = S) (hq : R.tdiv 1000000 = q) (hr' : R.tmod 1000000 = r) : (M + q) * 1000000 + r = S ∧ -1000000 < r ∧ r < 1000000 := by
 have e : 1000000 * R.tdiv 1000000 + R.tmod 1000000 = R := Int.mul_tdiv_add_tmod R 1000000
 have b1 : R.tmod 1000000 < 1000000 := Int.tmod_lt_of_pos _ (by omega)
 have b2 : -1000000 < R.tmod 1000000 := by have := Int.lt_tmod_of_pos R (show (0 : Int) < 1000000 by omega); omega
 rw [hq, hr'] at e
 rw [hr'] at b1 b2
 omega
set_option maxRecDepth 20000 in
set_option maxHeartbeats 3200000 in
theorem msum_any (A : Option Addr) (c : Nat) (zs : List Int) (w : World) (hz : IntsAt .i64 w A zs) (hl : zs.length ≤ 1000) :
  Calls Tryd.prog 17 #[.slice A zs.length c] w fun e w' => e = .returned (.tuple #[.int .i64 (sumV zs), .int .i64 (sumE zs)]) ∧ Below w.heap.size w w' := by
 obtain ⟨len, hlen⟩ : ∃ len, zs.length = len := ⟨_, rfl⟩
 have HZ := Lib.hid hz
 clear hz
 rw [hlen] at hl ⊢
 have HL := Lib.hid hlen
 clear hlen
 go_enter Tryd.func17, Tryd.ntmps17
 go_wp2_with fail
 go_loop [4, 5, 10] (fun m r i => ∃ (k : Nat) (M R : Int), k ≤ len ∧ m = .int .i64 M ∧ r = .int .i64 R ∧ i = .int .i64 k ∧ MS zs k M R) (fun _ _ i => len - (intOf i).toNat)
 case atStart => exact ⟨0, 0, 0, by omega, rfl, rfl, rfl, by simp, by simp, by simp, by simp, by simp, by simp⟩
 case round =>
  obtain ⟨k, M, R, hk, rfl, rfl, rfl, hms⟩ := hrel
  have b1 : -1000000000 ≤ M := by have := hms.m1; omega
  have b2 : M ≤ 1000000000 := by have := hms.m2; omega
  have b3 : -1000000000 ≤ R := by have := hms.r1; omega
  have b4 : R ≤ 1000000000 := by have := hms.r2; omega
  have HM := Lib.hid hms
  clear hms
  by_cases hlt : k < len
  ·obtain ⟨b, off, rfl, hbw, hcs⟩ := HZ.out (by rw [HL.out]; omega)
   have hc := hcs k (by rw [HL.out]; exact hlt)
   have hV := fun w => mvalid_any (zs.getD k 0) w
   obtain ⟨x, hx⟩ : ∃ x, zs.getD k 0 = x := ⟨_, rfl⟩
   rw [hx] at hc hV
   have HX := Lib.hid hx
   clear hx hcs
   cases hok : amtB x
   ·rw [hok] at hV
    have HV := Lib.hid hV
    have HE : Hid (zs.all amtB = false) := Lib.hid (all_no (by rw [HL.out]; exact hlt) (by rw [HX.out]; exact hok))
    clear hV hok
    go_wp2_with (go_at_call 13; refine (HV.out _).mono ?_; rintro e w' ⟨rfl, rfl⟩)
    go_ret2
    exact ⟨by unfold sumV sumE; rw [HE.out]; rfl, Below.refl _ _⟩
   ·rw [hok] at hV
    have HV := Lib.hid hV
    obtain ⟨q, hq⟩ : ∃ q, x.tdiv 1000000 = q := ⟨_, rfl⟩
    obtain ⟨r, hr'⟩ : ∃ r, x.tmod 1000000 = r := ⟨_, rfl⟩
    obtain ⟨hn, ⟨q1, q2⟩, r1, r2⟩ := HM.out.next (by rw [HL.out]; exact hlt) HX.out hok hq hr'
    have hdv : IntKind.i64.wrap (x.tdiv 1000000) = q := by rw [hq, IntKind.wrap_i64]; omega
    have HN := Lib.hid hn
    clear hV hok hn hq
    go_wp2_with (go_at_call 13; refine (HV.out _).mono ?_; rintro e w' ⟨rfl, rfl⟩)
    go_round
    case rel => exact ⟨k + 1, M + q, R + r, by omega, rfl, rfl, by go_num, HN.out⟩
    case measure => simp [intOf]; omega
  ·obtain rfl : k = len := by omega
   obtain ⟨q, hq⟩ : ∃ q, R.tdiv 1000000 = q := ⟨_, rfl⟩
   obtain ⟨r, hr'⟩ : ∃ r, R.tmod 1000000 = r := ⟨_, rfl⟩
   have hall : zs.all amtB = true := by have := HM.out.ok; rwa [List.take_of_length_le (by rw [HL.out]; exact Nat.le_refl _)] at this
   have hsum : M * 1000000 + R = zs.sum := by have := HM.out.sum; rwa [List.take_of_length_le (by rw [HL.out]; exact Nat.le_refl _)] at this
   obtain ⟨he, r1, r2⟩ := sum_end hsum hq hr'
   have q1 : -1000000000 ≤ q := by omega
   have q2 : q ≤ 1000000000 := by omega
   have hdv : IntKind.i64.wrap (R.tdiv 1000000) = q := by rw [hq, IntKind.wrap_i64]; omega
   have hA := fun w => mabs_any (M + q) w (by omega) (by omega)
   obtain ⟨z, hz⟩ : ∃ z, ((M + q).natAbs : Int) = z := ⟨_, rfl⟩
   obtain ⟨S, hS⟩ : ∃ S, zs.sum = S := ⟨_, rfl⟩
   rw [hz] at hA
   rw [hS] at he
   have hM := fun w => amount_any S w
   have eV : sumV zs = amV S := by unfold sumV; rw [if_pos hall, hS]
   have eE : sumE zs = amE S := by unfold sumE; rw [if_pos hall, hS]
   have hkk : decide ((k : Int) < (k : Int)) = false := by simp
   have HA := Lib.hid hA
   by_cases hf : 1000000 < z
   ·have hno : amtB S = false := amtB_no (by omega)
    have fV : sumV zs = 0 := by rw [eV]; unfold amV; rw [hno]; rfl
    have fE : sumE zs = 2 := by rw [eE]; unfold amE; rw [hno]; rfl
    have HFV := Lib.hid fV
    have HFE := Lib.hid fE
    clear hA hM eV eE fV fE hno he hS hz hsum hq hall hk hlt
    go_wp2_with (go_at_call 31; refine (HA.out _).mono ?_; rintro e w' ⟨rfl, rfl⟩)
    go_ret2
    exact ⟨by rw [HFV.out, HFE.out]; rfl, Below.refl _ _⟩
   ·have hf' : decide (1000000 < z) = false := decide_eq_false hf
    have HFV := Lib.hid eV
    have HFE := Lib.hid eE
    obtain ⟨N, hN⟩ : ∃ N, M + q = N := ⟨_, rfl⟩
    rw [hN] at he HA hz
    have n1 : -1000000 ≤ N := by omega
    have n2 : N ≤ 1000000 := by omega
    have HM2 := Lib.hid hM
    clear hA hM eV eE hS hz hsum hq hall hk hlt hf
    go_wp2_with (first | (go_at_call 31; refine (HA.out _).mono ?_; rintro e w' ⟨rfl, rfl⟩) | (go_at_call 32; refine (HM2.out _).mono ?_; rintro e w' ⟨rfl, rfl⟩))
    go_ret2
    exact ⟨by rw [HFV.out, HFE.out]; rfl, Below.refl _ _⟩
structure RS (zs : List Int) (k : Nat) (S : Int) : Prop where
 ok : (zs.take k).all amtB = true
 sum : S = (zs.take k).sum
 m1 : -((k : Int) * 1000000000000) ≤ S
 m2 : S ≤ (k : Int) * 1000000000000
theorem RS.next {zs : List Int} {k : Nat} {S x : Int} (h : RS zs k S) (hk : k < zs.length) (hx : zs.getD k 0 = x) (hok : amtB x = true) : RS zs (k + 1) (S + x) := by
 obtain ⟨a1, a2, a3, a4⟩ := h
 obtain ⟨x1, x2⟩ := amtB_is hok
 refine ⟨?_, ?_, by omega, by omega⟩
 ·rw [take_all zs k hk, a1, hx, hok]; rfl
 ·rw [take_sum zs k hk, hx, ← a2]
set_option maxRecDepth 20000 in
set_option maxHeartbeats 3200000 in
theorem rmsum_any (A : Option Addr) (c : Nat) (zs : List Int) (w : World) (hz : IntsAt .i64 w A zs) (hl : zs.length ≤ 1000) :
  Calls Tryd.prog 33 #[.slice A zs.length c] w fun e w' => e = .returned (.tuple #[.int .i64 (sumV zs), .int .i64 (sumE zs)]) ∧ Below w.heap.size w w' := by
 obtain ⟨len, hlen⟩ : ∃ len, zs.length = len := ⟨_, rfl⟩
 have HZ := Lib.hid hz
 clear hz
 rw [hlen] at hl ⊢
 have HL := Lib.hid hlen
 clear hlen
 go_enter Tryd.func33, Tryd.ntmps33
 go_wp2_with fail
 go_loop [4, 5] (fun s i => ∃ (k : Nat) (S : Int), k ≤ len ∧ s = .int .i64 S ∧ i = .int .i64 k ∧ RS zs k S) (fun _ i => len - (intOf i).toNat)
 case atStart => exact ⟨0, 0, by omega, rfl, rfl, by simp, by simp, by simp, by simp⟩
 case round =>
  obtain ⟨k, S, hk, rfl, rfl, hms⟩ := hrel
  have b1 : -1000000000000000 ≤ S := by have := hms.m1; omega
  have b2 : S ≤ 1000000000000000 := by have := hms.m2; omega
  have HM := Lib.hid hms
  clear hms
  by_cases hlt : k < len
  ·obtain ⟨b, off, rfl, hbw, hcs⟩ := HZ.out (by rw [HL.out]; omega)
   have hc := hcs k (by rw [HL.out]; exact hlt)
   have hV := fun w => rmvalid_any (zs.getD k 0) w
   obtain ⟨x, hx⟩ : ∃ x, zs.getD k 0 = x := ⟨_, rfl⟩
   rw [hx] at hc hV
   have HX := Lib.hid hx
   clear hx hcs
   cases hok : amtB x
   ·rw [hok] at hV
    have HV := Lib.hid hV
    have HE : Hid (zs.all amtB = false) := Lib.hid (all_no (by rw [HL.out]; exact hlt) (by rw [HX.out]; exact hok))
    clear hV hok
    go_wp2_with (go_at_call 14; refine (HV.out _).mono ?_; rintro e w' ⟨rfl, rfl⟩)
    go_ret2
    exact ⟨by unfold sumV sumE; rw [HE.out]; rfl, Below.refl _ _⟩
   ·rw [hok] at hV
    have HV := Lib.hid hV
    have HN := Lib.hid (HM.out.next (by rw [HL.out]; exact hlt) HX.out hok)
    obtain ⟨x1, x2⟩ := amtB_is hok
    clear hV hok
    go_wp2_with (go_at_call 14; refine (HV.out _).mono ?_; rintro e w' ⟨rfl, rfl⟩)
    go_round
    case rel => exact ⟨k + 1, S + x, by omega, rfl, by go_num, HN.out⟩
    case measure => simp [intOf]; omega
  ·obtain rfl : k = len := by omega
   have hall : zs.all amtB = true := by have := HM.out.ok; rwa [List.take_of_length_le (by rw [HL.out]; exact Nat.le_refl _)] at this
   have hsum : S = zs.sum := by have := HM.out.sum; rwa [List.take_of_length_le (by rw [HL.out]; exact Nat.le_refl _)] at this
   have hM := fun w => checked_any S w
   have eV : sumV zs = amV S := by unfold sumV; rw [if_pos hall, hsum]
   have eE : sumE zs = amE S := by unfold sumE; rw [if_pos hall, hsum]
   have hkk : decide ((k : Int) < (k : Int)) = false := by simp
   have HFV := Lib.hid eV
   have HFE := Lib.hid eE
   have HM2 := Lib.hid hM
   clear hM eV eE hsum hall hk hlt
   go_wp2_with (go_at_call 35; refine (HM2.out _).mono ?_; rintro e w' ⟨rfl, rfl⟩)
   go_ret2
   exact ⟨by rw [HFV.out, HFE.out]; rfl, Below.refl _ _⟩
def addE (a b : Int) : Int := if (amtB a && amtB b) = true then amE (a + b) else 1
def addV (a b : Int) : Int := if (amtB a && amtB b) = true then amV (a + b) else 0
theorem sum_two (a b : Int) : sumE [a, b] = addE a b ∧ sumV [a, b] = addV a b := by
 unfold sumE sumV addE addV
 simp
theorem add_comm (a b : Int) : addE b a = addE a b ∧ addV b a = addV a b := by
 unfold addE addV
 rw [Bool.and_comm, Int.add_comm]
 exact ⟨rfl, rfl⟩
theorem ints_two (w : World) (a b : Int) : IntsAt .i64 (w.alloc (.cells #[.int .i64 a, .int .i64 b] 3)) (some ⟨w.heap.size, 0, none⟩) [a, b] := fun _ => by
 refine ⟨w.heap.size, 0, rfl, by simp, fun i hi => ?_⟩
 match i, hi with
 | 0, _ => simp
 | 1, _ => simp
theorem madd_any (a b : Int) (w : World) : Calls Tryd.prog 15 #[.int .i64 a, .int .i64 b] w fun e w' => e = .returned (.tuple #[.int .i64 (addV a b), .int .i64 (addE a b)]) ∧ Below w.heap.size w w' := by
 have hS := msum_any (some ⟨w.heap.size, 0, none⟩) 2 [a, b] _ (ints_two w a b) (by simp)
 rw [(sum_two a b).1, (sum_two a b).2] at hS
 have HS := Lib.hid hS
 have hB : Below w.heap.size w (w.alloc (.cells #[.int .i64 a, .int .i64 b] 3)) := (Below.refl _ _).alloc (Nat.le_refl _) _
 clear hS
 go_enter Tryd.func15, Tryd.ntmps15
 go_wp2_with (go_at_call 17; refine (HS.out).mono ?_; rintro e w' ⟨rfl, hb⟩; replace hB := below_more hB hb; clear hb)
 go_ret2
 exact ⟨rfl, hB⟩
theorem rmadd_any (a b : Int) (w : World) : Calls Tryd.prog 30 #[.int .i64 a, .int .i64 b] w fun e w' => e = .returned (.tuple #[.int .i64 (addV a b), .int .i64 (addE a b)]) ∧ Below w.heap.size w w' := by
 have hS := rmsum_any (some ⟨w.heap.size, 0, none⟩) 2 [a, b] _ (ints_two w a b) (by simp)
 rw [(sum_two a b).1, (sum_two a b).2] at hS
 have HS := Lib.hid hS
 have hB : Below w.heap.size w (w.alloc (.cells #[.int .i64 a, .int .i64 b] 3)) := (Below.refl _ _).alloc (Nat.le_refl _) _
 clear hS
 go_enter Tryd.func30, Tryd.ntmps30
 go_wp2_with (go_at_call 33; refine (HS.out).mono ?_; rintro e w' ⟨rfl, hb⟩; replace hB := below_more hB hb; clear hb)
 go_ret2
 exact ⟨rfl, hB⟩
theorem addition_any (a b : Int) (w : World) : Calls Tryd.prog 16 #[.int .i64 a, .int .i64 b] w fun e w' => e = .returned (.tuple #[.int .i64 (addV a b), .int .i64 (addE a b)]) ∧ Below w.heap.size w w' := by
 have hB := Below.refl w.heap.size w
 have hV := fun w => rmvalid_any a w
 have hX := fun w => rmvalid_any b w
 have hR := fun w => rmadd_any a b w
 obtain ⟨V, hVV⟩ : ∃ V, addV a b = V := ⟨_, rfl⟩
 obtain ⟨E, hEE⟩ : ∃ E, addE a b = E := ⟨_, rfl⟩
 unfold addV at hVV
 unfold addE at hEE
 have hR' : ∀ w, Calls Tryd.prog 30 #[.int .i64 a, .int .i64 b] w fun e w' => e = .returned (.tuple #[.int .i64 V, .int .i64 E]) ∧ Below w.heap.size w w' := fun w => by rw [← hVV, ← hEE]; exact hR w
 show Calls _ _ _ _ fun e w' => e = .returned (.tuple #[.int .i64 (if (amtB a && amtB b) = true then amV (a + b) else 0), .int .i64 (if (amtB a && amtB b) = true then amE (a + b) else 1)]) ∧ _
 rw [hVV, hEE]
 clear hR
 cases h1 : amtB a
 ·rw [h1] at hV hVV hEE
  have HV := Lib.hid hV
  obtain rfl : V = 0 := hVV.symm
  obtain rfl : E = 1 := hEE.symm
  clear hV hX hR' hVV hEE
  go_enter Tryd.func16, Tryd.ntmps16
  go_wp2_with (go_at_call 14; refine (HV.out _).mono ?_; rintro e w' ⟨rfl, rfl⟩)
  go_ret2
  exact ⟨rfl, hB⟩
 ·cases h2 : amtB b
  ·rw [h1] at hV hVV hEE
   rw [h2] at hX hVV hEE
   have HV := Lib.hid hV
   have HX := Lib.hid hX
   obtain rfl : V = 0 := hVV.symm
   obtain rfl : E = 1 := hEE.symm
   clear hV hX hR' hVV hEE
   go_enter Tryd.func16, Tryd.ntmps16
   go_wp2_with (go_at_call 14; first | ((with_reducible refine (HV.out _).mono ?_); rintro e w' ⟨rfl, rfl⟩) | ((with_reducible refine (HX.out _).mono ?_); rintro e w' ⟨rfl, rfl⟩))
   go_ret2
   exact ⟨rfl, hB⟩
  ·rw [h1] at hV
   rw [h2] at hX
   have HV := Lib.hid hV
   have HX := Lib.hid hX
   have HR := Lib.hid hR'
   clear hV hX hR' hVV hEE h1 h2
   go_enter Tryd.func16, Tryd.ntmps16
   go_wp2_with (first | (go_at_call 14; first | ((with_reducible refine (HV.out _).mono ?_); rintro e w' ⟨rfl, rfl⟩) | ((with_reducible refine (HX.out _).mono ?_); rintro e w' ⟨rfl, rfl⟩)) | (go_at_call 30; refine (HR.out _).mono ?_; rintro e w' ⟨rfl, hb⟩; replace hB := below_more hB hb; clear hb))
   go_ret2
   exact ⟨rfl, hB⟩
theorem add_back {a b : Int} (h : addE a b = 0) : addV (addV a b) (-b) = a ∧ addE (addV a b) (-b) = 0 ∧ amtB b = true ∧ amtB (addV a b) = true := by
 unfold addE at h
 by_cases h1 : (amtB a && amtB b) = true
 ·rw [if_pos h1] at h
  simp only [Bool.and_eq_true] at h1
  have h3 : amtB (a + b) = true := by
   unfold amE at h
   by_cases k : amtB (a + b) = true
   ·exact k
   ·rw [if_neg k] at h; omega
  have hv : addV a b = a + b := by unfold addV amV; rw [h1.1, h1.2, h3]; rfl
  rw [hv]
  unfold addV addE amV amE
  rw [h3, amtB_neg, h1.2, show a + b + -b = a by omega, h1.1]
  exact ⟨rfl, rfl, rfl, rfl⟩
 ·rw [if_neg h1] at h; omega
set_option maxHeartbeats 1600000 in
theorem law_madd (a b : Int) (w : World) (ht : DTab w.heap.size w) : Calls Tryd.prog 3 #[.int .i64 a, .int .i64 b] w fun e w' => e = .returned (.bool true) ∧ Below w.heap.size w w' := by
 have HT := Lib.hid ht
 clear ht
 have hB := Below.refl w.heap.size w
 have hP := fun w => mvalid_any a w
 have hR := fun w => rmvalid_any a w
 have h1 := fun w => madd_any a b w
 have h2 := fun w => madd_any b a w
 have h3 := fun w => addition_any a b w
 have h4 := fun w => madd_any (addV a b) (-b) w
 rw [(add_comm a b).1, (add_comm a b).2] at h2
 have hbk := add_back (a := a) (b := b)
 by_cases hE : addE a b = 0
 ·obtain ⟨k1, k2, k3, k4⟩ := hbk hE
  obtain ⟨b1, b2⟩ := amtB_is k3
  rw [k1, k2] at h4
  rw [hE] at h1 h2 h3
  generalize addV a b = V at *
  generalize amtB a = va at *
  have H1 := Lib.hid h1
  have H2 := Lib.hid h2
  have H3 := Lib.hid h3
  have H4 := Lib.hid h4
  have HP := Lib.hid hP
  have HR := Lib.hid hR
  clear h1 h2 h3 h4 hbk hE k1 k2 k3 k4 hP hR
  go_enter Tryd.func3, Tryd.ntmps3
  go_wp2_with (first | (go_at_call 12; refine (mawake_any _ HT.out).mono ?_; rintro e w' ⟨rfl, hb⟩; replace hB := below_more hB hb; clear hb) | (go_at_call 13; refine (HP.out _).mono ?_; rintro e w' ⟨rfl, rfl⟩) | (go_at_call 14; refine (HR.out _).mono ?_; rintro e w' ⟨rfl, rfl⟩) | (go_at_call 15; first | ((with_reducible refine (H1.out _).mono ?_); rintro e w' ⟨rfl, hb⟩; replace hB := below_more hB hb; clear hb) | ((with_reducible refine (H2.out _).mono ?_); rintro e w' ⟨rfl, hb⟩; replace hB := below_more hB hb; clear hb) | ((with_reducible refine (H4.out _).mono ?_); rintro e w' ⟨rfl, hb⟩; replace hB := below_more hB hb; clear hb)) | (go_at_call 16; refine (H3.out _).mono ?_; rintro e w' ⟨rfl, hb⟩; replace hB := below_more hB hb; clear hb))
  go_ret
  exact ⟨rfl, hB⟩
 ·generalize addV a b = V at *
  generalize addE a b = E at *
  generalize amtB a = va at *
  have hne : (E != 0) = true := by simpa using hE
  have H1 := Lib.hid h1
  have H2 := Lib.hid h2
  have H3 := Lib.hid h3
  have HP := Lib.hid hP
  have HR := Lib.hid hR
  clear h1 h2 h3 h4 hbk hE hP hR
  go_enter Tryd.func3, Tryd.ntmps3
  go_wp2_with (first | (go_at_call 12; refine (mawake_any _ HT.out).mono ?_; rintro e w' ⟨rfl, hb⟩; replace hB := below_more hB hb; clear hb) | (go_at_call 13; refine (HP.out _).mono ?_; rintro e w' ⟨rfl, rfl⟩) | (go_at_call 14; refine (HR.out _).mono ?_; rintro e w' ⟨rfl, rfl⟩) | (go_at_call 15; first | ((with_reducible refine (H1.out _).mono ?_); rintro e w' ⟨rfl, hb⟩; replace hB := below_more hB hb; clear hb) | ((with_reducible refine (H2.out _).mono ?_); rintro e w' ⟨rfl, hb⟩; replace hB := below_more hB hb; clear hb)) | (go_at_call 16; refine (H3.out _).mono ?_; rintro e w' ⟨rfl, hb⟩; replace hB := below_more hB hb; clear hb))
  go_ret
  exact ⟨rfl, hB⟩
end Go.Proofs.YthndbonfcdphgaaDoor
