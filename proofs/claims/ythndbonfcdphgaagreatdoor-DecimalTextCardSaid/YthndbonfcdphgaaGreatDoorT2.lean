/- Contracts of the functions that the statements reach, part 2: what was proved of each, callees first. -/
import Derived.LoopTactic
import Derived.Deep.QuietTactic
import Derived.BigQuiet
import Derived.Lib.AppendIntMem
import Derived.Lib.ItoaLen
import Derived.Test.YthndbonfcdphgaaGreatDoorRows
import Derived.Handed
import Derived.ProofKit
import Derived.LaidMore
import Derived.Lay
import Derived.OpenShut
import Derived.Stop.Joined
import Derived.ChangeSame
import Derived.Lib.LaidTab
import Derived.Shelf.Vars
import Derived.Stop.LaidErr
import Derived.ChangeSlices
import Derived.Carry
import Derived.Test.YthndbonfcdphgaaGreatDoorT1
namespace Go.Proofs.YthndbonfcdphgaaGreatDoor
open Go.RowKit
open AS (Keep NoInt)
def modeB (m : Int) : Bool := decide (0 ≤ m) && decide (m ≤ 5)
def termB (a : Int) : Bool := decide (-1000000000000000000 ≤ a) && decide (a ≤ 1000000000000000000)
def scaleB (s : Int) : Bool := decide (0 ≤ s) && decide (s ≤ 9)
def validB (n s : Int) : Bool := (decide (-1000000000000000 ≤ n) && decide (n ≤ 1000000000000000)) && scaleB s
theorem modeB_is {m : Int} (h : modeB m = true) : 0 ≤ m ∧ m ≤ 5 := by simpa [modeB] using h
theorem termB_is {m : Int} (h : termB m = true) : -1000000000000000000 ≤ m ∧ m ≤ 1000000000000000000 := by simpa [termB] using h
theorem scaleB_is {m : Int} (h : scaleB m = true) : 0 ≤ m ∧ m ≤ 9 := by simpa [scaleB] using h
theorem validB_is {n s : Int} (h : validB n s = true) : (-1000000000000000 ≤ n ∧ n ≤ 1000000000000000) ∧ 0 ≤ s ∧ s ≤ 9 := by simpa [validB, scaleB, and_assoc] using h
theorem isMode_any (m : Int) (w : World) : Calls Tryz.prog 24 #[.int .i64 m] w fun e w' => e = .returned (.bool (modeB m)) ∧ Below w.heap.size w w' := by
 unfold modeB
 by_cases h1 : 0 ≤ m
 ·by_cases h2 : m ≤ 5
  ·rw [decide_eq_true h1, decide_eq_true h2]
   have h3 : m < 6 := by omega
   clear h2
   go_enter Tryz.func24, Tryz.ntmps24
   go_wp2_with (go_at_call 40; refine (modes_any _).mono ?_; rintro e w' ⟨rfl, hb⟩)
   go_ret
   exact ⟨rfl, hb⟩
  ·rw [decide_eq_true h1, decide_eq_false h2]
   have h3 : decide (m < 6) = false := decide_eq_false (by omega)
   clear h2
   go_enter Tryz.func24, Tryz.ntmps24
   go_wp2_with (go_at_call 40; refine (modes_any _).mono ?_; rintro e w' ⟨rfl, hb⟩)
   go_ret
   exact ⟨rfl, hb⟩
 ·rw [decide_eq_false h1]
  have h3 : decide (0 ≤ m) = false := decide_eq_false h1
  clear h1
  go_enter Tryz.func24, Tryz.ntmps24
  go_wp2
  go_ret
  exact ⟨rfl, Below.refl _ _⟩
theorem isTerm_any (a : Int) (w : World) : Calls Tryz.prog 25 #[.int .i64 a] w fun e w' => e = .returned (.bool (termB a)) ∧ w = w' := by
 unfold termB
 by_cases h1 : (-1000000000000000000 : Int) ≤ a
 ·by_cases h2 : a ≤ 1000000000000000000
  ·rw [decide_eq_true h1, decide_eq_true h2]
   go_enter Tryz.func25, Tryz.ntmps25
   go_wp2
   go_ret
   exact ⟨rfl, rfl⟩
  ·rw [decide_eq_true h1, decide_eq_false h2]
   have h3 : decide (a ≤ 1000000000000000000) = false := decide_eq_false h2
   clear h2
   go_enter Tryz.func25, Tryz.ntmps25
   go_wp2
   go_ret
   exact ⟨rfl, rfl⟩
 ·rw [decide_eq_false h1]
  have h3 : decide ((-1000000000000000000 : Int) ≤ a) = false := decide_eq_false h1
  clear h1
  go_enter Tryz.func25, Tryz.ntmps25
  go_wp2
  go_ret
  exact ⟨rfl, rfl⟩
theorem isScale_any (a : Int) (w : World) : Calls Tryz.prog 15 #[.int .i64 a] w fun e w' => e = .returned (.bool (scaleB a)) ∧ w = w' := by
 unfold scaleB
 by_cases h1 : (0 : Int) ≤ a
 ·by_cases h2 : a ≤ 9
  ·rw [decide_eq_true h1, decide_eq_true h2]
   go_enter Tryz.func15, Tryz.ntmps15
   go_wp2
   go_ret
   exact ⟨rfl, rfl⟩
  ·rw [decide_eq_true h1, decide_eq_false h2]
   have h3 : decide (a ≤ 9) = false := decide_eq_false h2
   clear h2
   go_enter Tryz.func15, Tryz.ntmps15
   go_wp2
   go_ret
   exact ⟨rfl, rfl⟩
 ·rw [decide_eq_false h1]
  have h3 : decide ((0 : Int) ≤ a) = false := decide_eq_false h1
  clear h1
  go_enter Tryz.func15, Tryz.ntmps15
  go_wp2
  go_ret
  exact ⟨rfl, rfl⟩
theorem known_any (a : Int) (w : World) : Calls Tryz.prog 22 #[.int .i64 a] w fun e w' => e = .returned (.bool (modeB a)) ∧ w = w' := by
 unfold modeB
 by_cases h1 : (0 : Int) ≤ a
 ·by_cases h2 : a ≤ 5
  ·rw [decide_eq_true h1, decide_eq_true h2]
   go_enter Tryz.func22, Tryz.ntmps22
   go_wp2
   go_ret
   exact ⟨rfl, rfl⟩
  ·rw [decide_eq_true h1, decide_eq_false h2]
   have h3 : decide (a ≤ 5) = false := decide_eq_false h2
   clear h2
   go_enter Tryz.func22, Tryz.ntmps22
   go_wp2
   go_ret
   exact ⟨rfl, rfl⟩
 ·rw [decide_eq_false h1]
  have h3 : decide ((0 : Int) ≤ a) = false := decide_eq_false h1
  clear h1
  go_enter Tryz.func22, Tryz.ntmps22
  go_wp2
  go_ret
  exact ⟨rfl, rfl⟩
theorem valid_any (n s : Int) (w : World) : Calls Tryz.prog 6 #[.int .i64 n, .int .i64 s] w fun e w' => e = .returned (.bool (validB n s)) ∧ w = w' := by
 unfold validB
 by_cases h1 : (-1000000000000000 : Int) ≤ n
 ·by_cases h2 : n ≤ 1000000000000000
  ·rw [decide_eq_true h1, decide_eq_true h2]
   go_enter Tryz.func6, Tryz.ntmps6
   go_wp2_with (go_at_call 15; refine (isScale_any _ _).mono ?_; rintro e w' ⟨rfl, rfl⟩)
   go_ret
   exact ⟨dret_bool (by simp), rfl⟩
  ·rw [decide_eq_true h1, decide_eq_false h2]
   have h3 : decide (n ≤ 1000000000000000) = false := decide_eq_false h2
   clear h2
   go_enter Tryz.func6, Tryz.ntmps6
   go_wp2
   go_ret
   exact ⟨rfl, rfl⟩
 ·rw [decide_eq_false h1]
  have h3 : decide ((-1000000000000000 : Int) ≤ n) = false := decide_eq_false h1
  clear h1
  go_enter Tryz.func6, Tryz.ntmps6
  go_wp2
  go_ret
  exact ⟨rfl, rfl⟩
theorem rvalid_any (n s : Int) (w : World) : Calls Tryz.prog 7 #[.int .i64 n, .int .i64 s] w fun e w' => e = .returned (.bool (validB n s)) ∧ w = w' := by
 unfold validB
 by_cases h1 : (-1000000000000000 : Int) ≤ n
 ·by_cases h2 : n ≤ 1000000000000000
  ·rw [decide_eq_true h1, decide_eq_true h2]
   unfold scaleB
   by_cases h4 : 0 ≤ s
   ·by_cases h5 : s ≤ 9
    ·rw [decide_eq_true h4, decide_eq_true h5]
     go_enter Tryz.func7, Tryz.ntmps7
     go_wp2
     go_ret
     exact ⟨rfl, rfl⟩
    ·rw [decide_eq_true h4, decide_eq_false h5]
     have h3 : decide (s ≤ 9) = false := decide_eq_false h5
     clear h5
     go_enter Tryz.func7, Tryz.ntmps7
     go_wp2
     go_ret
     exact ⟨rfl, rfl⟩
   ·rw [decide_eq_false h4]
    have h3 : decide (0 ≤ s) = false := decide_eq_false h4
    clear h4
    go_enter Tryz.func7, Tryz.ntmps7
    go_wp2
    go_ret
    exact ⟨rfl, rfl⟩
  ·rw [decide_eq_true h1, decide_eq_false h2]
   have h3 : decide (n ≤ 1000000000000000) = false := decide_eq_false h2
   clear h2
   go_enter Tryz.func7, Tryz.ntmps7
   go_wp2
   go_ret
   exact ⟨rfl, rfl⟩
 ·rw [decide_eq_false h1]
  have h3 : decide ((-1000000000000000 : Int) ≤ n) = false := decide_eq_false h1
  clear h1
  go_enter Tryz.func7, Tryz.ntmps7
  go_wp2
  go_ret
  exact ⟨rfl, rfl⟩
theorem size_any (a : Int) (w : World) (h1 : -9223372036854775807 ≤ a) (h2 : a ≤ 9223372036854775807) : Calls Tryz.prog 17 #[.int .i64 a] w fun e w' => e = .returned (.int .i64 (a.natAbs : Int)) ∧ w = w' := by
 by_cases h : a < 0
 ·rw [show (a.natAbs : Int) = -a by omega]
  go_enter Tryz.func17, Tryz.ntmps17
  go_wp2
  go_ret
  exact ⟨rfl, rfl⟩
 ·rw [show (a.natAbs : Int) = a by omega]
  go_enter Tryz.func17, Tryz.ntmps17
  go_wp2
  go_ret
  exact ⟨rfl, rfl⟩
def pw (k : Nat) : Int := ((10 ^ k : Nat) : Int)
theorem pw_succ (k : Nat) : pw (k + 1) = pw k * 10 := by unfold pw; rw [Nat.pow_succ]; omega
theorem pw_bd {k : Nat} (h : k ≤ 9) : 1 ≤ pw k ∧ pw k ≤ 1000000000 := by
 have h1 : 0 < 10 ^ k := Nat.pow_pos (by omega)
 have h2 : 10 ^ k ≤ 10 ^ 9 := Nat.pow_le_pow_right (by omega) h
 unfold pw; omega
set_option maxHeartbeats 800000 in
theorem rpower_any (k : Nat) (hk : k ≤ 9) (w : World) : Calls Tryz.prog 18 #[.int .i64 k] w fun e w' => e = .returned (.int .i64 (pw k)) ∧ w = w' := by
 go_enter Tryz.func18, Tryz.ntmps18
 go_wp2
 go_loop [3, 4] (fun p i => ∃ j : Nat, j ≤ k ∧ i = .int .i64 j ∧ p = .int .i64 (pw j)) (fun _ i => k - (intOf i).toNat)
 case atStart => exact ⟨0, Nat.zero_le _, rfl, rfl⟩
 case round =>
  obtain ⟨j, hj, rfl, rfl⟩ := hrel
  have hb := pw_bd (show j ≤ 9 by omega)
  obtain ⟨hb1, hb2⟩ := hb
  have hs := Lib.hid (pw_succ j)
  by_cases hlt : j < k
  ·go_wp2
   go_round
   case rel => exact ⟨j + 1, by omega, by go_num, by rw [hs.out]⟩
   case measure => simp [intOf]; omega
  ·obtain rfl : j = k := by omega
   have hkk : decide ((j : Int) < (j : Int)) = false := by simp
   go_wp2
   go_ret
   exact ⟨rfl, rfl⟩
theorem repeat48 (c : Nat) : Lib.repeatL [48] c = List.replicate c 48 := by
 induction c with
 | zero => rfl
 | succ c ih => simp [Lib.repeatL, List.replicate_succ] at ih ⊢ <;> exact ih
theorem rep48 (c : Nat) (w : World) (hc : c ≤ 20) : Calls Tryz.prog 14 #[.string ⟨#[48]⟩, .int .i64 c] w fun e w' => e = .returned (.string ⟨(Lib.repeatL [48] c).toArray⟩) ∧ Below w.heap.size w w' :=
 Tryz.strings_Repeat ⟨#[48]⟩ c w (by omega) (by rw [show (⟨#[48]⟩ : ByteArray).size = 1 from rfl]; omega)
def padD (D : List UInt8) (s : Nat) : List UInt8 := List.replicate (s + 1 - D.length) 48 ++ D
theorem padD_len (D : List UInt8) (s : Nat) : s < (padD D s).length := by unfold padD; simp; omega
theorem padD_le {D : List UInt8} {s n : Nat} (h : D.length ≤ n) (h2 : s < n) : (padD D s).length ≤ n := by unfold padD; simp; omega
def bareT (P : List UInt8) (s : Nat) : List UInt8 := if s = 0 then P else P.take (P.length - s) ++ 46 :: P.drop (P.length - s)
def signT (neg : Bool) (T : List UInt8) : List UInt8 := if neg then 45 :: T else T
set_option maxHeartbeats 800000 in
theorem dtext_000 (n : Int) (I D : List UInt8) (s : Nat) (w : World) (ht : DTab w.heap.size w) (hv : validB n s = true) (hd : Lib.itoa n = I) (h1 : Lib.trimPrefix I [45] = D) (h2 : Lib.hasPrefix I [45] = false) (hl : D.length ≤ 20) (hm : s < D.length) (hs : 0 < s) :
  Calls Tryz.prog 5 #[.int .i64 n, .int .i64 s] w fun e w' => e = .returned (.string ⟨(signT false (bareT (padD D s) s)).toArray⟩) ∧ Below w.heap.size w w' := by
 have hn := validB_is hv
 have hpl := padD_len D s
 have hple := padD_le (D := D) (s := s) (n := 20) hl (by omega)
 have hp0 : padD D s = D := by unfold padD; rw [show s + 1 - D.length = 0 by omega]; rfl
 rw [hp0] at *
 have hlt : decide ((D.length : Int) < (s : Int) + 1) = false := decide_eq_false (by omega)
 clear hp0
 obtain ⟨R, hR⟩ : ∃ R, signT false (bareT D s) = R := ⟨_, rfl⟩
 rw [hR]
 have HR := Lib.hid hR
 clear hR
 have hB := Below.refl w.heap.size w
 have HS := Lib.hid hs
 go_enter Tryz.func5, Tryz.ntmps5
 go_wp2_with (first | (go_at_call 6; refine (valid_any _ _ _).mono ?_; rintro e w' ⟨rfl, rfl⟩) | (go_at_call 13; refine (itoa_any _ (by omega) (by omega) _ ht).mono ?_; rintro e w' ⟨rfl, hb⟩; replace hB := below_more hB hb; clear hb) | (go_at_call 12; refine (Tryz.strings_CutPrefix _ _ _).mono ?_; rintro e w' ⟨rfl, hw⟩; subst hw) | (go_at_call 14; refine (rep48 c _ hc9).mono ?_; rintro e w' ⟨rfl, hb⟩; replace hB := below_more hB hb; clear hb))
 go_ret
 exact ⟨dret_str (bytes_eq (by rw [← HR.out]; simp [signT, bareT, ByteArray.data_append, Nat.pos_iff_ne_zero.1 HS.out, Lib.extract_data] <;> exact List.take_of_length_le (by simp))), hB⟩
set_option maxHeartbeats 800000 in
theorem dtext_001 (n : Int) (I D : List UInt8) (w : World) (ht : DTab w.heap.size w) (hv : validB n 0 = true) (hd : Lib.itoa n = I) (h1 : Lib.trimPrefix I [45] = D) (h2 : Lib.hasPrefix I [45] = false) (hl : D.length ≤ 20) (hm : 0 < D.length)  :
  Calls Tryz.prog 5 #[.int .i64 n, .int .i64 0] w fun e w' => e = .returned (.string ⟨(signT false (bareT (padD D 0) 0)).toArray⟩) ∧ Below w.heap.size w w' := by
 have hn := validB_is hv
 have hpl := padD_len D 0
 have hple := padD_le (D := D) (s := 0) (n := 20) hl (by omega)
 have hp0 : padD D 0 = D := by unfold padD; rw [show 0 + 1 - D.length = 0 by omega]; rfl
 rw [hp0] at *
 have hlt : decide ((D.length : Int) < 1) = false := decide_eq_false (by omega)
 clear hp0
 obtain ⟨R, hR⟩ : ∃ R, signT false (bareT D 0) = R := ⟨_, rfl⟩
 rw [hR]
 have HR := Lib.hid hR
 clear hR
 have hB := Below.refl w.heap.size w
 go_enter Tryz.func5, Tryz.ntmps5
 go_wp2_with (first | (go_at_call 6; refine (valid_any _ _ _).mono ?_; rintro e w' ⟨rfl, rfl⟩) | (go_at_call 13; refine (itoa_any _ (by omega) (by omega) _ ht).mono ?_; rintro e w' ⟨rfl, hb⟩; replace hB := below_more hB hb; clear hb) | (go_at_call 12; refine (Tryz.strings_CutPrefix _ _ _).mono ?_; rintro e w' ⟨rfl, hw⟩; subst hw) | (go_at_call 14; refine (rep48 c _ hc9).mono ?_; rintro e w' ⟨rfl, hb⟩; replace hB := below_more hB hb; clear hb))
 go_ret
 exact ⟨dret_str (bytes_eq (by rw [← HR.out]; simp [signT, bareT, ByteArray.data_append, Lib.extract_data] <;> exact List.take_of_length_le (by simp))), hB⟩
set_option maxHeartbeats 800000 in
theorem dtext_010 (n : Int) (I D : List UInt8) (s : Nat) (w : World) (ht : DTab w.heap.size w) (hv : validB n s = true) (hd : Lib.itoa n = I) (h1 : Lib.trimPrefix I [45] = D) (h2 : Lib.hasPrefix I [45] = false) (hl : D.length ≤ 20) (hm : D.length < s + 1) (hs : 0 < s) :
  Calls Tryz.prog 5 #[.int .i64 n, .int .i64 s] w fun e w' => e = .returned (.string ⟨(signT false (bareT (padD D s) s)).toArray⟩) ∧ Below w.heap.size w w' := by
 have hn := validB_is hv
 have hpl := padD_len D s
 have hple := padD_le (D := D) (s := s) (n := 20) hl (by omega)
 obtain ⟨c, hc⟩ : ∃ c : Nat, s + 1 - D.length = c := ⟨_, rfl⟩
 have hc1 : (s : Int) + 1 - (D.length : Int) = (c : Int) := by omega
 have hc0 : 0 < c := by omega
 have hc9 : c ≤ 20 := by omega
 have hp : ({ data := (Lib.repeatL [48] c).toArray } : ByteArray) ++ { data := D.toArray } = { data := (padD D s).toArray } := bytes_eq (by rw [repeat48]; simp [ByteArray.data_append, padD, hc])
 have hlt : (D.length : Int) < (s : Int) + 1 := by omega
 have hov : ¬ 9223372036854775807 < (Lib.repeatL [48] c).length + D.length := by rw [Lib.repeatL_length]; simp; omega
 clear hm hc
 generalize padD D s = P at *
 obtain ⟨R, hR⟩ : ∃ R, signT false (bareT P s) = R := ⟨_, rfl⟩
 rw [hR]
 have HR := Lib.hid hR
 clear hR
 have hB := Below.refl w.heap.size w
 have HS := Lib.hid hs
 go_enter Tryz.func5, Tryz.ntmps5
 go_wp2_with (first | (go_at_call 6; refine (valid_any _ _ _).mono ?_; rintro e w' ⟨rfl, rfl⟩) | (go_at_call 13; refine (itoa_any _ (by omega) (by omega) _ ht).mono ?_; rintro e w' ⟨rfl, hb⟩; replace hB := below_more hB hb; clear hb) | (go_at_call 12; refine (Tryz.strings_CutPrefix _ _ _).mono ?_; rintro e w' ⟨rfl, hw⟩; subst hw) | (go_at_call 14; refine (rep48 c _ hc9).mono ?_; rintro e w' ⟨rfl, hb⟩; replace hB := below_more hB hb; clear hb))
 go_ret
 exact ⟨dret_str (bytes_eq (by rw [← HR.out]; simp [signT, bareT, ByteArray.data_append, Nat.pos_iff_ne_zero.1 HS.out, Lib.extract_data] <;> exact List.take_of_length_le (by simp))), hB⟩
set_option maxHeartbeats 800000 in
theorem dtext_100 (n : Int) (I D : List UInt8) (s : Nat) (w : World) (ht : DTab w.heap.size w) (hv : validB n s = true) (hd : Lib.itoa n = I) (h1 : Lib.trimPrefix I [45] = D) (h2 : Lib.hasPrefix I [45] = true) (hl : D.length ≤ 20) (hm : s < D.length) (hs : 0 < s) :
  Calls Tryz.prog 5 #[.int .i64 n, .int .i64 s] w fun e w' => e = .returned (.string ⟨(signT true (bareT (padD D s) s)).toArray⟩) ∧ Below w.heap.size w w' := by
 have hn := validB_is hv
 have hpl := padD_len D s
 have hple := padD_le (D := D) (s := s) (n := 20) hl (by omega)
 have hp0 : padD D s = D := by unfold padD; rw [show s + 1 - D.length = 0 by omega]; rfl
 rw [hp0] at *
 have hlt : decide ((D.length : Int) < (s : Int) + 1) = false := decide_eq_false (by omega)
 clear hp0
 obtain ⟨R, hR⟩ : ∃ R, signT true (bareT D s) = R := ⟨_, rfl⟩
 rw [hR]
 have HR := Lib.hid hR
 clear hR
 have hB := Below.refl w.heap.size w
 have HS := Lib.hid hs
 go_enter Tryz.func5, Tryz.ntmps5
 go_wp2_with (first | (go_at_call 6; refine (valid_any _ _ _).mono ?_; rintro e w' ⟨rfl, rfl⟩) | (go_at_call 13; refine (itoa_any _ (by omega) (by omega) _ ht).mono ?_; rintro e w' ⟨rfl, hb⟩; replace hB := below_more hB hb; clear hb) | (go_at_call 12; refine (Tryz.strings_CutPrefix _ _ _).mono ?_; rintro e w' ⟨rfl, hw⟩; subst hw) | (go_at_call 14; refine (rep48 c _ hc9).mono ?_; rintro e w' ⟨rfl, hb⟩; replace hB := below_more hB hb; clear hb))
 go_ret
 exact ⟨dret_str (bytes_eq (by rw [← HR.out]; simp [signT, bareT, ByteArray.data_append, Nat.pos_iff_ne_zero.1 HS.out, Lib.extract_data] <;> exact List.take_of_length_le (by simp))), hB⟩
set_option maxHeartbeats 800000 in
theorem dtext_101 (n : Int) (I D : List UInt8) (w : World) (ht : DTab w.heap.size w) (hv : validB n 0 = true) (hd : Lib.itoa n = I) (h1 : Lib.trimPrefix I [45] = D) (h2 : Lib.hasPrefix I [45] = true) (hl : D.length ≤ 20) (hm : 0 < D.length)  :
  Calls Tryz.prog 5 #[.int .i64 n, .int .i64 0] w fun e w' => e = .returned (.string ⟨(signT true (bareT (padD D 0) 0)).toArray⟩) ∧ Below w.heap.size w w' := by
 have hn := validB_is hv
 have hpl := padD_len D 0
 have hple := padD_le (D := D) (s := 0) (n := 20) hl (by omega)
 have hp0 : padD D 0 = D := by unfold padD; rw [show 0 + 1 - D.length = 0 by omega]; rfl
 rw [hp0] at *
 have hlt : decide ((D.length : Int) < 1) = false := decide_eq_false (by omega)
 clear hp0
 obtain ⟨R, hR⟩ : ∃ R, signT true (bareT D 0) = R := ⟨_, rfl⟩
 rw [hR]
 have HR := Lib.hid hR
 clear hR
 have hB := Below.refl w.heap.size w
 go_enter Tryz.func5, Tryz.ntmps5
 go_wp2_with (first | (go_at_call 6; refine (valid_any _ _ _).mono ?_; rintro e w' ⟨rfl, rfl⟩) | (go_at_call 13; refine (itoa_any _ (by omega) (by omega) _ ht).mono ?_; rintro e w' ⟨rfl, hb⟩; replace hB := below_more hB hb; clear hb) | (go_at_call 12; refine (Tryz.strings_CutPrefix _ _ _).mono ?_; rintro e w' ⟨rfl, hw⟩; subst hw) | (go_at_call 14; refine (rep48 c _ hc9).mono ?_; rintro e w' ⟨rfl, hb⟩; replace hB := below_more hB hb; clear hb))
 go_ret
 exact ⟨dret_str (bytes_eq (by rw [← HR.out]; simp [signT, bareT, ByteArray.data_append, Lib.extract_data] <;> exact List.take_of_length_le (by simp))), hB⟩
set_option maxHeartbeats 800000 in
theorem dtext_110 (n : Int) (I D : List UInt8) (s : Nat) (w : World) (ht : DTab w.heap.size w) (hv : validB n s = true) (hd : Lib.itoa n = I) (h1 : Lib.trimPrefix I [45] = D) (h2 : Lib.hasPrefix I [45] = true) (hl : D.length ≤ 20) (hm : D.length < s + 1) (hs : 0 < s) :
  Calls Tryz.prog 5 #[.int .i64 n, .int .i64 s] w fun e w' => e = .returned (.string ⟨(signT true (bareT (padD D s) s)).toArray⟩) ∧ Below w.heap.size w w' := by
 have hn := validB_is hv
 have hpl := padD_len D s
 have hple := padD_le (D := D) (s := s) (n := 20) hl (by omega)
 obtain ⟨c, hc⟩ : ∃ c : Nat, s + 1 - D.length = c := ⟨_, rfl⟩
 have hc1 : (s : Int) + 1 - (D.length : Int) = (c : Int) := by omega
 have hc0 : 0 < c := by omega
 have hc9 : c ≤ 20 := by omega
 have hp : ({ data := (Lib.repeatL [48] c).toArray } : ByteArray) ++ { data := D.toArray } = { data := (padD D s).toArray } := bytes_eq (by rw [repeat48]; simp [ByteArray.data_append, padD, hc])
 have hlt : (D.length : Int) < (s : Int) + 1 := by omega
 have hov : ¬ 9223372036854775807 < (Lib.repeatL [48] c).length + D.length := by rw [Lib.repeatL_length]; simp; omega
 clear hm hc
 generalize padD D s = P at *
 obtain ⟨R, hR⟩ : ∃ R, signT true (bareT P s) = R := ⟨_, rfl⟩
 rw [hR]
 have HR := Lib.hid hR
 clear hR
 have hB := Below.refl w.heap.size w
 have HS := Lib.hid hs
 go_enter Tryz.func5, Tryz.ntmps5
 go_wp2_with (first | (go_at_call 6; refine (valid_any _ _ _).mono ?_; rintro e w' ⟨rfl, rfl⟩) | (go_at_call 13; refine (itoa_any _ (by omega) (by omega) _ ht).mono ?_; rintro e w' ⟨rfl, hb⟩; replace hB := below_more hB hb; clear hb) | (go_at_call 12; refine (Tryz.strings_CutPrefix _ _ _).mono ?_; rintro e w' ⟨rfl, hw⟩; subst hw) | (go_at_call 14; refine (rep48 c _ hc9).mono ?_; rintro e w' ⟨rfl, hb⟩; replace hB := below_more hB hb; clear hb))
 go_ret
 exact ⟨dret_str (bytes_eq (by rw [← HR.out]; simp [signT, bareT, ByteArray.data_append, Nat.pos_iff_ne_zero.1 HS.out, Lib.extract_data] <;> exact List.take_of_length_le (by simp))), hB⟩
theorem cut_sign (U : List UInt8) : cutW (45 :: U) = 45 :: cutW U ∧ cutR (45 :: U) = cutR U := by
 have h45 : (46 : UInt8) ≠ 45 := by decide
 unfold cutW cutR
 rcases cut_split U 46 with ⟨W, R, hw, rfl⟩ | hn
 ·rw [cut_hit hw, show (45 : UInt8) :: (W ++ 46 :: R) = (45 :: W) ++ 46 :: R from rfl, cut_hit (by simp [hw])]
  exact ⟨rfl, rfl⟩
 ·rw [cut_miss hn, cut_miss (by simp [hn])]
  exact ⟨rfl, rfl⟩
def dcN (l : List UInt8) (k : Nat) : Nat := numOf (cutW (unL l) ++ cutR (unL l) ++ List.replicate (k - (cutR (unL l)).length) 48)
def dcpE (l : List UInt8) (k : Nat) : Int := if dform l = true then (if k < (cutR (unL l)).length then 2 else if validB (sgZ (ngL l) (dcN l k)) k = true then 0 else 2) else 3
def dcpV (l : List UInt8) (k : Nat) : Int := if dform l = true then (if k < (cutR (unL l)).length then 0 else if validB (sgZ (ngL l) (dcN l k)) k = true then sgZ (ngL l) (dcN l k) else 0) else 0
theorem dform_dgs {l : List UInt8} (h : dform l = true) : dgs (cutW (unL l)) = true ∧ (∀ c ∈ cutR (unL l), isDig c = true) := by
 unfold dform okD at h
 simp only [Bool.and_eq_true] at h
 obtain ⟨⟨h1, h2, -⟩, -⟩ := h
 refine ⟨h1, fun c hc => ?_⟩
 rcases cut_three (unL l) with ⟨a1, -⟩ | ⟨-, -, a3, -⟩
 ·rw [a1] at h2
  exact (dgs_is (by simpa using h2)).2 c hc
 ·rw [a3] at hc; cases hc
theorem dgs_more {W R : List UInt8} (h1 : dgs W = true) (h2 : ∀ c ∈ R, isDig c = true) : dgs (W ++ R) = true := by
 obtain ⟨a1, a2⟩ := dgs_is h1
 refine dgs_mk (by simp [a1]) fun c hc => ?_
 rcases List.mem_append.1 hc with h | h
 ·exact a2 c h
 ·exact h2 c h
theorem sign_parts (l : List UInt8) : cutR l = cutR (unL l) ∧ cutW l = (if ngL l then 45 :: cutW (unL l) else cutW (unL l)) := by
 rcases sign_cases l with ⟨h1, h2⟩ | ⟨h1, h2⟩
 ·have := cut_sign (unL l)
  rw [← h2] at this
  rw [h1]; exact ⟨this.2, this.1⟩
 ·rw [h1, ← h2]; exact ⟨rfl, rfl⟩
theorem valid_far {neg : Bool} {n k : Nat} (h : 1000000000000000 < n) : validB (sgZ neg n) k = false := by
 unfold validB sgZ
 cases neg
 ·rw [if_neg (by decide), decide_eq_false (show ¬ (n : Int) ≤ 1000000000000000 by omega), Bool.and_false, Bool.false_and]
 ·rw [if_pos rfl, decide_eq_false (show ¬ (-1000000000000000 : Int) ≤ -(n : Int) by omega), Bool.false_and, Bool.false_and]
set_option maxRecDepth 20000 in
set_option maxHeartbeats 3200000 in
theorem dparse_in (l : List UInt8) (k : Nat) (w : World) (hm : MaxC w) (hv : ErrC w) (hl : l.length ≤ 500) (hk : k ≤ 9) : Calls Tryz.prog 9 #[.string ⟨l.toArray⟩, .int .i64 (k : Int)] w fun e w' => e = .returned (.tuple #[.int .i64 (dcpV l k), .int .i64 (dcpE l k)]) ∧ Below w.heap.size w w' := by
 have hB := Below.refl w.heap.size w
 have hF := fun w h => istext_any l w h (by omega)
 have hS := fun w => isScale_any (k : Int) w
 rw [show scaleB (k : Int) = true by simp [scaleB]; omega] at hS
 have HSC := Lib.hid hS
 have HM := Lib.hid hm
 have HV := Lib.hid hv
 clear hS hm hv
 unfold dcpV dcpE
 cases hf : dform l
 ·rw [hf] at hF
  have HF := Lib.hid hF
  clear hF hf
  go_enter Tryz.func9, Tryz.ntmps9
  go_wp2_with (first | (go_at_call 15; refine (HSC.out _).mono ?_; rintro e w' ⟨rfl, rfl⟩) | (go_at_call 19; refine (HF.out _ HM.out).mono ?_; rintro e w0 ⟨rfl, hb⟩; replace hB := below_more hB hb; clear hb))
  go_ret2
  exact ⟨rfl, hB⟩
 ·rw [hf] at hF
  rw [if_pos rfl, if_pos rfl]
  have HF := Lib.hid hF
  have hcu := fun w h => cutd_any l w h (by omega)
  have hsp := sign_parts l
  have hdg := dform_dgs hf
  have hcl := cut_le l
  obtain ⟨R, hR⟩ : ∃ R, cutR (unL l) = R := ⟨_, rfl⟩
  obtain ⟨pre, hpre⟩ : ∃ pre, cutW l = pre := ⟨_, rfl⟩
  have hN : dcN l k = numOf (cutW (unL l) ++ R ++ List.replicate (k - R.length) 48) := by unfold dcN; rw [hR]
  rw [hR] at hsp hdg ⊢
  rw [hsp.1, hpre] at hcu
  rw [hpre, hsp.1] at hcl
  rw [hpre] at hsp
  obtain ⟨r, hr'⟩ : ∃ r, R.length = r := ⟨_, rfl⟩
  rw [hr'] at hN hcl ⊢
  have HCU := Lib.hid hcu
  have HR := Lib.hid hr'
  clear hF hcu
  by_cases hlt : k < r
  ·rw [if_pos hlt, if_pos hlt]
   have hlt' : (k : Int) < (r : Int) := by omega
   clear hf hsp hdg hR hpre hN hlt
   go_enter Tryz.func9, Tryz.ntmps9
   go_wp2_with (first | (go_at_call 15; refine (HSC.out _).mono ?_; rintro e w' ⟨rfl, rfl⟩) | (go_at_call 19; refine (HF.out _ HM.out).mono ?_; rintro e w0 ⟨rfl, hb⟩; replace hB := below_more hB hb; clear hb) | (go_at_call 20; refine (HCU.out _ (HM.out.up hB)).mono ?_; rintro e w1 ⟨rfl, hb⟩; replace hB := below_more hB hb; clear hb))
   go_ret2
   exact ⟨rfl, hB⟩
  ·rw [if_neg hlt, if_neg hlt]
   have hlt' : decide (k < r) = false := decide_eq_false hlt
   obtain ⟨c, hc⟩ : ∃ c, k - r = c := ⟨_, rfl⟩
   rw [hc] at hN
   have hz : List.replicate c (48 : UInt8) = Lib.repeatL [48] c := (repeat48 c).symm
   have hzd : ∀ x ∈ List.replicate c (48 : UInt8), isDig x = true := fun x hx => by rw [(List.mem_replicate.1 hx).2]; decide
   have hat : Lib.atoiAll (pre ++ R ++ Lib.repeatL [48] c) = endZ (ngL l) (dcN l k) := by
    rw [← hz, hsp.2, hN]
    have hd := dgs_more (dgs_more hdg.1 hdg.2) hzd
    cases hng : ngL l
    ·rw [if_neg (by decide)]; exact atoi_digits hd
    ·rw [if_pos rfl]; exact atoi_minus hd
   have hs0 : (((⟨pre.toArray⟩ : ByteArray) ++ ⟨R.toArray⟩) ++ ⟨(Lib.repeatL [48] c).toArray⟩).data.toList = pre ++ R ++ Lib.repeatL [48] c := by simp [ByteArray.data_append]
   have hzl : (Lib.repeatL [48] c).length = c := by rw [← hz]; simp
   have hsz : (((⟨pre.toArray⟩ : ByteArray) ++ ⟨R.toArray⟩) ++ ⟨(Lib.repeatL [48] c).toArray⟩).size ≤ 1000000 := by
    rw [ByteArray.size_append, ByteArray.size_append, Lib.size_mk, Lib.size_mk, Lib.size_mk, hzl, hr']; omega
   rw [← hs0] at hat
   have hci : (k : Int) - (r : Int) = (c : Int) := by omega
   have hcw : IntKind.i64.wrap ((k : Int) - (r : Int)) = (c : Int) := by rw [IntKind.wrap_i64]; omega
   have HC9 : Hid (c ≤ 20) := Lib.hid (by omega)
   have hov3 : ¬ 9223372036854775807 < pre.length + r + (Lib.repeatL [48] c).length := by rw [hzl]; omega
   rcases endZ_cases (ngL l) (dcN l k) with ⟨v, he⟩ | he
   ·have hA := fun w h => atoi_okT (w := w) h hsz hat he
    have hvz := endZ_ok he
    have hvd := fun w => valid_any v k w
    rw [← hvz]
    have HA := Lib.hid hA
    have hov : ¬ 9223372036854775807 < pre.length + r := by omega
    clear hA he hat hs0 hsz hN hz hzd hf hsp hdg hR hpre hc hvz
    cases hval : validB v k
    all_goals
     rw [hval] at hvd
     have HVD := Lib.hid hvd
     clear hvd hval
     go_enter Tryz.func9, Tryz.ntmps9
     go_wp2_with (first | (go_at_call 15; refine (HSC.out _).mono ?_; rintro e w' ⟨rfl, rfl⟩) | (go_at_call 19; refine (HF.out _ HM.out).mono ?_; rintro e w0 ⟨rfl, hb⟩; replace hB := below_more hB hb; clear hb) | (go_at_call 20; refine (HCU.out _ (HM.out.up hB)).mono ?_; rintro e w1 ⟨rfl, hb⟩; replace hB := below_more hB hb; clear hb) | (go_at_call 14; refine (rep48 c _ HC9.out).mono ?_; rintro e w1 ⟨rfl, hb⟩; replace hB := below_more hB hb; clear hb) | (go_at_call 21; refine (HA.out _ (HV.out.up hB)).mono ?_; rintro e w1 ⟨rfl, hb⟩; replace hB := below_more hB hb; clear hb) | (go_at_call 6; refine (HVD.out _).mono ?_; rintro e w1 ⟨rfl, rfl⟩))
     go_ret2
     exact ⟨rfl, hB⟩
   ·have hA := fun w h => atoi_rngT (w := w) h hsz hat he
    have hno : validB (sgZ (ngL l) (dcN l k)) k = false := valid_far (by have := endZ_range he; omega)
    rw [hno]
    have HA := Lib.hid hA
    have hov : ¬ 9223372036854775807 < pre.length + r := by omega
    clear hA he hat hs0 hsz hN hz hzd hf hsp hdg hR hpre hc hno
    go_enter Tryz.func9, Tryz.ntmps9
    go_wp2_with (first | (go_at_call 15; refine (HSC.out _).mono ?_; rintro e w' ⟨rfl, rfl⟩) | (go_at_call 19; refine (HF.out _ HM.out).mono ?_; rintro e w0 ⟨rfl, hb⟩; replace hB := below_more hB hb; clear hb) | (go_at_call 20; refine (HCU.out _ (HM.out.up hB)).mono ?_; rintro e w1 ⟨rfl, hb⟩; replace hB := below_more hB hb; clear hb) | (go_at_call 14; refine (rep48 c _ HC9.out).mono ?_; rintro e w1 ⟨rfl, hb⟩; replace hB := below_more hB hb; clear hb) | (go_at_call 21; refine (HA.out _ (HV.out.up hB)).mono ?_; rintro e w1 ⟨⟨v, g, rfl⟩, hb⟩; replace hB := below_more hB hb; clear hb))
    go_ret2
    exact ⟨rfl, hB⟩
theorem dparse_any (l : List UInt8) (sc : Int) (w : World) (hm : MaxC w) (hv : ErrC w) (hl : l.length ≤ 500) : Calls Tryz.prog 9 #[.string ⟨l.toArray⟩, .int .i64 sc] w fun e w' => e = .returned (.tuple #[.int .i64 (if scaleB sc = true then dcpV l sc.toNat else 0), .int .i64 (if scaleB sc = true then dcpE l sc.toNat else 1)]) ∧ Below w.heap.size w w' := by
 cases hs : scaleB sc
 ·have hS := fun w => isScale_any sc w
  rw [hs] at hS
  have HSC := Lib.hid hS
  have hB := Below.refl w.heap.size w
  clear hS
  go_enter Tryz.func9, Tryz.ntmps9
  go_wp2_with (first | (go_at_call 15; refine (HSC.out _).mono ?_; rintro e w' ⟨rfl, rfl⟩))
  go_ret2
  exact ⟨rfl, hB⟩
 ·obtain ⟨h1, h2⟩ := scaleB_is hs
  have := dparse_in l sc.toNat w hm hv hl (by omega)
  rw [show (sc.toNat : Int) = sc by omega] at this
  exact this
def lead0 (W : List UInt8) : Bool := decide (1 < W.length) && W.head? == some 48
theorem dot_dig {W : List UInt8} (h : ∀ c ∈ W, isDig c = true) : 46 ∉ W := dig_no h (by decide)
theorem okD_all {W : List UInt8} (h : ∀ c ∈ W, isDig c = true) : okD W = (dgs W && !lead0 W) ∧ cutW W = W ∧ cutR W = [] := by
 have hc := cut_miss (dot_dig h)
 unfold okD cutH cutW cutR lead0
 rw [hc]
 exact ⟨by simp, rfl, rfl⟩
theorem okD_dot {W R : List UInt8} (h : ∀ c ∈ W, isDig c = true) : okD (W ++ 46 :: R) = (dgs W && (dgs R && !lead0 W)) ∧ cutW (W ++ 46 :: R) = W ∧ cutR (W ++ 46 :: R) = R := by
 have hc := cut_hit (R := R) (dot_dig h)
 unfold okD cutH cutW cutR lead0
 rw [hc]
 exact ⟨by simp, rfl, rfl⟩
theorem indexAny_any (l cs : List UInt8) : decide (0 ≤ Lib.indexAny l cs) = l.any (cs.contains ·) := by
 induction l with
 | nil => rfl
 | cons b t ih =>
  rw [Lib.indexAny, List.any_cons]
  by_cases h : cs.contains b = true
  ·rw [if_pos h, h]; rfl
  ·rw [if_neg h]
   have h2 : cs.contains b = false := by simpa using h
   rw [h2, Bool.false_or, ← ih]
   have := Lib.indexAny_ge cs t
   by_cases h3 : Lib.indexAny t cs = -1
   ·rw [h3]; rfl
   ·have h4 : (Lib.indexAny t cs == -1) = false := by simpa using h3
    rw [h4]
    simp only [Bool.false_eq_true, if_false]
    rw [decide_eq_true (show 0 ≤ Lib.indexAny t cs + 1 by omega), decide_eq_true (show 0 ≤ Lib.indexAny t cs by omega)]
def allZ (l : List UInt8) : Bool := l.all (fun c => c == 48)
theorem nine_dig {c : UInt8} (h : isDig c = true) : nine.contains c = !(c == 48) := by
 have h1 := isDig_iff.1 h
 have e : ∀ k : Nat, k < 256 → c.toNat = k → c = UInt8.ofNat k := fun k hk h => by
  apply UInt8.toNat_inj.1; rw [h]; simp; omega
 have h3 : c.toNat = 48 ∨ c.toNat = 49 ∨ c.toNat = 50 ∨ c.toNat = 51 ∨ c.toNat = 52 ∨ c.toNat = 53 ∨ c.toNat = 54 ∨ c.toNat = 55 ∨ c.toNat = 56 ∨ c.toNat = 57 := by omega
 rcases h3 with h | h | h | h | h | h | h | h | h | h <;> rw [e _ (by omega) h] <;> decide
theorem nz_dig {W : List UInt8} (h : ∀ c ∈ W, isDig c = true) : W.any (nine.contains ·) = !allZ W := by
 unfold allZ
 induction W with
 | nil => rfl
 | cons c t ih => rw [List.any_cons, List.all_cons, ih fun x hx => h x (by simp [hx]), nine_dig (h c (by simp)), Bool.not_and]
theorem hasNZ_all {W : List UInt8} (h : ∀ c ∈ W, isDig c = true) : hasNZ W = !allZ W := by
 unfold hasNZ Lib.containsAny
 rw [indexAny_any, nz_dig h]
theorem hasNZ_dot {W R : List UInt8} (h : ∀ c ∈ W, isDig c = true) (h2 : ∀ c ∈ R, isDig c = true) : hasNZ (W ++ 46 :: R) = !allZ (W ++ R) := by
 unfold hasNZ Lib.containsAny
 rw [indexAny_any, List.any_append, List.any_cons, nz_dig h, nz_dig h2, show nine.contains (46 : UInt8) = false by decide, Bool.false_or]
 unfold allZ
 rw [List.all_append, Bool.not_and]
theorem rnd_zero (m b : Int) (hm0 : 0 ≤ m) (hm1 : m ≤ 5) (hb : b ≠ 0) : rnd m 0 b = 0 := by
 have hc : m = 0 ∨ m = 1 ∨ m = 2 ∨ m = 3 ∨ m = 4 ∨ m = 5 := by omega
 have hd : (0 : Int) < (b.natAbs : Int) := by omega
 rcases hc with rfl | rfl | rfl | rfl | rfl | rfl <;> simp [rnd, rqN, upN, sgn] <;> omega
def rqFL (a b A B X R : Int) : List (Nat × AS.Fact) := [(21, AS.Fact.is (.int .i64 a)), (22, AS.Fact.is (.int .i64 A)), (23, AS.Fact.is (.int .i64 b)), (24, AS.Fact.is (.int .i64 B)), (25, AS.Fact.is (.int .i64 X)), (26, AS.Fact.is (.int .i64 a)), (27, AS.Fact.is (.int .i64 A)), (28, AS.Fact.is (.int .i64 b)), (29, AS.Fact.is (.int .i64 B)), (30, AS.Fact.is (.int .i64 R)), (31, AS.Fact.is (.int .i64 b)), (32, AS.Fact.is (.int .i64 B)), (8, AS.Fact.is (.int .i64 X)), (9, AS.Fact.is (.int .i64 R)), (10, AS.Fact.is (.int .i64 B))]
set_option maxRecDepth 20000 in
set_option maxHeartbeats 3200000 in
theorem rq_00 (m a b : Int) (w : World) (hm0 : 0 ≤ m) (hm1 : m ≤ 5) (h1 : 0 < a) (h2 : a ≤ 1000000000000000000) (h3 : 0 < b) (h4 : b ≤ 1000000000000000000) :
  Calls Tryz.prog 23 #[.int .i64 a, .int .i64 b, .int .i64 m] w fun e w' => e = .returned (.int .i64 (sgn false (rqN m false (a / b) (a % b) b))) ∧ Below w.heap.size w w' := by
 obtain ⟨z, hz⟩ : ∃ z, sgn false (rqN m false (a / b) (a % b) b) = z := ⟨_, rfl⟩
 rw [hz]
 have HZ := Lib.hid hz
 clear hz
 have q0 : 0 ≤ a / b := Int.ediv_nonneg (by omega) (by omega)
 have q2 : a / b ≤ 1000000000000000000 := Int.le_trans (Int.ediv_le_self _ (by omega)) h2
 have q3 : 0 ≤ a % b := Int.emod_nonneg _ (by omega)
 have q4 : a % b < b := Int.emod_lt_of_pos _ h3
 have hz : (b == 0) = false := by simp; omega
 have hza : (a == 0) = false := by simp; omega
 have hzb : (a != 0) = true := by simp; omega
 have hzc : (a == 0) = false := by simp; omega
 have h0 : 0 ≤ a := by omega
 have hs : ∀ w, Calls Tryz.prog 17 #[.int .i64 a] w fun e w' => e = .returned (.int .i64 a) ∧ w = w' := fun w => (size_any a w (by omega) (by omega)).mono fun _ _ h => by rw [show ((a : Int).natAbs : Int) = a by omega] at h; exact h
 have ht : ∀ w, Calls Tryz.prog 17 #[.int .i64 b] w fun e w' => e = .returned (.int .i64 b) ∧ w = w' := fun w => (size_any b w (by omega) (by omega)).mono fun _ _ h => by rw [show ((b : Int).natAbs : Int) = b by omega] at h; exact h
 have HS := Lib.hid hs
 have HT := Lib.hid ht
 clear hs ht
 have na : decide (a < 0) = false := decide_eq_false (by omega)
 have nb : decide (b < 0) = false := decide_eq_false (by omega)
 have hb0 : ¬ b = 0 := by omega
 have hdv : IntKind.i64.wrap ((a : Int).tdiv b) = a / b := by rw [Int.tdiv_eq_ediv_of_nonneg (by omega), IntKind.wrap_i64]; omega
 have hmd : (a : Int).tmod b = a % b := Int.tmod_eq_emod_of_nonneg (by omega)
 have HB0 := Lib.hid hb0
 have HDV := Lib.hid hdv
 have HMD := Lib.hid hmd
 have hw0 : IntKind.i64.wrap 0 = 0 := by rw [IntKind.wrap_i64]; rfl
 clear hb0 hdv hmd
 go_enter Tryz.func23, Tryz.ntmps23
 go_upto_region 2 with (fail)
 refine AS.region_facts (rqFL a b a b (a / b) (a % b)) (DNo w) [[], [21], [], [23], [22, 24], [], [26], [], [28], [27, 29], [], [31], [25], [30], [32]] [] [[]] [0, 0, 0, 0, 0, 0, 0, 0, 0, 0, 0, 0, 0, 0, 0] [] (fun u => by simp only [rqFL, AS.temps, List.map_cons, List.map_nil, fillL, List.setIfInBounds_toArray, List.set_cons_zero, List.set_cons_succ]; rfl) (by kernel_rfl) (by kernel_rfl) (DNo.st w) (dc_drew (Below.refl _ _)) ?_ ?_
 ·refine AS.sc rfl rfl rfl ?_ ?_
  ·intro k_ u w_ hk hJ hF K hK
   clear hF
   go_simp
   exact hK.out _ _ (Below.refl _ _) (rfl) trivial
  refine AS.sc rfl rfl rfl ?_ ?_
  ·intro k_ u w_ hk hJ hF K hK
   have h21 : u 21 = .int .i64 a := AS.facts_get hF 21 (by simp)
   clear hF
   simp only [h21] at hK ⊢
   clear h21
   go_simp
   refine (HS.out _).mono ?_
   rintro e w' ⟨rfl, rfl⟩
   exact hK.out _ _ (Below.refl _ _) rfl trivial
  refine AS.sc rfl rfl rfl ?_ ?_
  ·intro k_ u w_ hk hJ hF K hK
   clear hF
   go_simp
   exact hK.out _ _ (Below.refl _ _) (rfl) trivial
  refine AS.sc rfl rfl rfl ?_ ?_
  ·intro k_ u w_ hk hJ hF K hK
   have h23 : u 23 = .int .i64 b := AS.facts_get hF 23 (by simp)
   clear hF
   simp only [h23] at hK ⊢
   clear h23
   go_simp
   refine (HT.out _).mono ?_
   rintro e w' ⟨rfl, rfl⟩
   exact hK.out _ _ (Below.refl _ _) rfl trivial
  refine AS.sc rfl rfl rfl ?_ ?_
  ·intro k_ u w_ hk hJ hF K hK
   have h22 : u 22 = .int .i64 a := AS.facts_get hF 22 (by simp)
   have h24 : u 24 = .int .i64 b := AS.facts_get hF 24 (by simp)
   clear hF
   simp only [h22, h24] at hK ⊢
   clear h22 h24
   have o0 := HB0.out
   have o1 := HDV.out
   have o2 := HMD.out
   go_simp
   exact hK.out _ _ (Below.refl _ _) rfl trivial
  refine AS.sc rfl rfl rfl ?_ ?_
  ·intro k_ u w_ hk hJ hF K hK
   clear hF
   go_simp
   exact hK.out _ _ (Below.refl _ _) (rfl) trivial
  refine AS.sc rfl rfl rfl ?_ ?_
  ·intro k_ u w_ hk hJ hF K hK
   have h26 : u 26 = .int .i64 a := AS.facts_get hF 26 (by simp)
   clear hF
   simp only [h26] at hK ⊢
   clear h26
   go_simp
   refine (HS.out _).mono ?_
   rintro e w' ⟨rfl, rfl⟩
   exact hK.out _ _ (Below.refl _ _) rfl trivial
  refine AS.sc rfl rfl rfl ?_ ?_
  ·intro k_ u w_ hk hJ hF K hK
   clear hF
   go_simp
   exact hK.out _ _ (Below.refl _ _) (rfl) trivial
  refine AS.sc rfl rfl rfl ?_ ?_
  ·intro k_ u w_ hk hJ hF K hK
   have h28 : u 28 = .int .i64 b := AS.facts_get hF 28 (by simp)
   clear hF
   simp only [h28] at hK ⊢
   clear h28
   go_simp
   refine (HT.out _).mono ?_
   rintro e w' ⟨rfl, rfl⟩
   exact hK.out _ _ (Below.refl _ _) rfl trivial
  refine AS.sc rfl rfl rfl ?_ ?_
  ·intro k_ u w_ hk hJ hF K hK
   have h27 : u 27 = .int .i64 a := AS.facts_get hF 27 (by simp)
   have h29 : u 29 = .int .i64 b := AS.facts_get hF 29 (by simp)
   clear hF
   simp only [h27, h29] at hK ⊢
   clear h27 h29
   have o0 := HB0.out
   have o1 := HDV.out
   have o2 := HMD.out
   go_simp
   exact hK.out _ _ (Below.refl _ _) rfl trivial
  refine AS.sc rfl rfl rfl ?_ ?_
  ·intro k_ u w_ hk hJ hF K hK
   clear hF
   go_simp
   exact hK.out _ _ (Below.refl _ _) (rfl) trivial
  refine AS.sc rfl rfl rfl ?_ ?_
  ·intro k_ u w_ hk hJ hF K hK
   have h31 : u 31 = .int .i64 b := AS.facts_get hF 31 (by simp)
   clear hF
   simp only [h31] at hK ⊢
   clear h31
   go_simp
   refine (HT.out _).mono ?_
   rintro e w' ⟨rfl, rfl⟩
   exact hK.out _ _ (Below.refl _ _) rfl trivial
  refine AS.sc rfl rfl rfl ?_ ?_
  ·intro k_ u w_ hk hJ hF K hK
   have h25 : u 25 = .int .i64 (a / b) := AS.facts_get hF 25 (by simp)
   clear hF
   simp only [h25] at hK ⊢
   clear h25
   go_simp
   exact hK.out _ _ (Below.refl _ _) rfl trivial
  refine AS.sc rfl rfl rfl ?_ ?_
  ·intro k_ u w_ hk hJ hF K hK
   have h30 : u 30 = .int .i64 (a % b) := AS.facts_get hF 30 (by simp)
   clear hF
   simp only [h30] at hK ⊢
   clear h30
   go_simp
   exact hK.out _ _ (Below.refl _ _) rfl trivial
  refine AS.sc rfl rfl rfl ?_ ?_
  ·intro k_ u w_ hk hJ hF K hK
   have h32 : u 32 = .int .i64 b := AS.facts_get hF 32 (by simp)
   clear hF
   simp only [h32] at hK ⊢
   clear h32
   go_simp
   exact hK.out _ _ (Below.refl _ _) rfl trivial
  exact AS.StepsOk.nil
 ·intro u W3 hJ9 hF
  have h8 : u 8 = .int .i64 (a / b) := AS.facts_get hF 8 (by simp [rqFL, AS.temps])
  have h9 : u 9 = .int .i64 (a % b) := AS.facts_get hF 9 (by simp [rqFL, AS.temps])
  have h10 : u 10 = .int .i64 b := AS.facts_get hF 10 (by simp [rqFL, AS.temps])
  clear hF
  rw [show u 8 = _ from h8, show u 9 = _ from h9, show u 10 = _ from h10]
  clear h8 h9 h10
  generalize a / b = x at *
  generalize a % b = r at *
  have hc : m = 0 ∨ m = 1 ∨ m = 2 ∨ m = 3 ∨ m = 4 ∨ m = 5 := by omega
  clear hm0 hm1
  rcases hc with rfl | rfl | rfl | rfl | rfl | rfl
  ·by_cases hr : 2 * r < b
   all_goals
    go_wp2_with fail
    go_ret
    exact ⟨dret_int (by rw [← HZ.out]; simp [sgn, rqN, upN, hr] <;> omega), hJ9⟩
  ·by_cases hr : 2 * r = b
   ·have hr1 : b ≤ 2 * r := by omega
    by_cases hx : x % 2 = 0
    ·have hx1 : (x % 2 == 1) = false := by simp; omega
     have hr2 : (2 * r == b) = true := by simpa using hr
     have hr3 : decide (b < 2 * r) = false := decide_eq_false (by omega)
     have HR := Lib.hid hr
     have HX := Lib.hid hx
     clear hr hx
     go_wp2_with fail
     go_ret
     exact ⟨dret_int (by rw [← HZ.out]; simp [sgn, rqN, upN, HR.out, HX.out] <;> omega), hJ9⟩
    ·have hx1 : (x % 2 == 1) = true := by simp; omega
     have hr2 : (2 * r == b) = true := by simpa using hr
     have hr3 : decide (b < 2 * r) = false := decide_eq_false (by omega)
     have hr4 : r ≠ 0 := by omega
     have HR := Lib.hid hr
     have HX := Lib.hid hx
     have H4 := Lib.hid hr4
     clear hr hx hr4
     go_wp2_with fail
     go_ret
     exact ⟨dret_int (by rw [← HZ.out]; simp [sgn, rqN, upN, HR.out, HX.out, H4.out] <;> omega), hJ9⟩
   ·have hr2 : (2 * r == b) = false := by simpa using hr
    have HR := Lib.hid hr
    clear hr
    by_cases hl : b < 2 * r
    ·have hr4 : r ≠ 0 := by omega
     have hl2 : ¬ 2 * r < b := by omega
     have H4 := Lib.hid hr4
     have HL := Lib.hid hl2
     clear hr4 hl2
     go_wp2_with fail
     go_ret
     exact ⟨dret_int (by rw [← HZ.out]; simp [sgn, rqN, upN, HR.out, HL.out, H4.out] <;> omega), hJ9⟩
    ·have hl1 : decide (b < 2 * r) = false := decide_eq_false hl
     have hl2 : 2 * r < b := by have := HR.out; omega
     have HL := Lib.hid hl2
     clear hl hl2
     go_wp2_with fail
     go_ret
     exact ⟨dret_int (by rw [← HZ.out]; simp [sgn, rqN, upN, HR.out, HL.out] <;> omega), hJ9⟩
  ·go_wp2_with fail
   go_ret
   exact ⟨dret_int (by rw [← HZ.out]; simp [sgn, rqN, upN]), hJ9⟩
  ·by_cases hr : r = 0
   ·subst hr
    go_wp2_with fail
    go_ret
    exact ⟨dret_int (by rw [← HZ.out]; simp [sgn, rqN, upN]), hJ9⟩
   ·have hr1 : 0 < r := by omega
    have HR := Lib.hid hr
    clear hr
    go_wp2_with fail
    go_ret
    exact ⟨dret_int (by rw [← HZ.out]; simp [sgn, rqN, upN, HR.out] <;> omega), hJ9⟩
  ·by_cases hr : r = 0
   ·subst hr
    go_wp2_with fail
    go_ret
    exact ⟨dret_int (by rw [← HZ.out]; simp [sgn, rqN, upN]), hJ9⟩
   ·have hr1 : 0 < r := by omega
    have HR := Lib.hid hr
    clear hr
    go_wp2_with fail
    go_ret
    exact ⟨dret_int (by rw [← HZ.out]; simp [sgn, rqN, upN, HR.out] <;> omega), hJ9⟩
  ·by_cases hr : r = 0
   ·subst hr
    go_wp2_with fail
    go_ret
    exact ⟨dret_int (by rw [← HZ.out]; simp [sgn, rqN, upN]), hJ9⟩
   ·have hr1 : 0 < r := by omega
    have HR := Lib.hid hr
    clear hr
    go_wp2_with fail
    go_ret
    exact ⟨dret_int (by rw [← HZ.out]; simp [sgn, rqN, upN, HR.out] <;> omega), hJ9⟩
set_option maxRecDepth 20000 in
set_option maxHeartbeats 3200000 in
theorem rq_01 (m a b : Int) (w : World) (hm0 : 0 ≤ m) (hm1 : m ≤ 5) (h1 : 0 < a) (h2 : a ≤ 1000000000000000000) (h3 : 0 < b) (h4 : b ≤ 1000000000000000000) :
  Calls Tryz.prog 23 #[.int .i64 a, .int .i64 (-b), .int .i64 m] w fun e w' => e = .returned (.int .i64 (sgn true (rqN m true (a / b) (a % b) b))) ∧ Below w.heap.size w w' := by
 obtain ⟨z, hz⟩ : ∃ z, sgn true (rqN m true (a / b) (a % b) b) = z := ⟨_, rfl⟩
 rw [hz]
 have HZ := Lib.hid hz
 clear hz
 have q0 : 0 ≤ a / b := Int.ediv_nonneg (by omega) (by omega)
 have q2 : a / b ≤ 1000000000000000000 := Int.le_trans (Int.ediv_le_self _ (by omega)) h2
 have q3 : 0 ≤ a % b := Int.emod_nonneg _ (by omega)
 have q4 : a % b < b := Int.emod_lt_of_pos _ h3
 have hz : (b == 0) = false := by simp; omega
 have hza : (a == 0) = false := by simp; omega
 have hzb : (a != 0) = true := by simp; omega
 have hzc : (a == 0) = false := by simp; omega
 have h0 : 0 ≤ a := by omega
 have hs : ∀ w, Calls Tryz.prog 17 #[.int .i64 a] w fun e w' => e = .returned (.int .i64 a) ∧ w = w' := fun w => (size_any a w (by omega) (by omega)).mono fun _ _ h => by rw [show ((a : Int).natAbs : Int) = a by omega] at h; exact h
 have ht : ∀ w, Calls Tryz.prog 17 #[.int .i64 (-b)] w fun e w' => e = .returned (.int .i64 b) ∧ w = w' := fun w => (size_any (-b) w (by omega) (by omega)).mono fun _ _ h => by rw [show (((-b) : Int).natAbs : Int) = b by omega] at h; exact h
 have HS := Lib.hid hs
 have HT := Lib.hid ht
 clear hs ht
 have na : decide (a < 0) = false := decide_eq_false (by omega)
 have hb0 : ¬ b = 0 := by omega
 have hdv : IntKind.i64.wrap ((a : Int).tdiv b) = a / b := by rw [Int.tdiv_eq_ediv_of_nonneg (by omega), IntKind.wrap_i64]; omega
 have hmd : (a : Int).tmod b = a % b := Int.tmod_eq_emod_of_nonneg (by omega)
 have HB0 := Lib.hid hb0
 have HDV := Lib.hid hdv
 have HMD := Lib.hid hmd
 have hw0 : IntKind.i64.wrap 0 = 0 := by rw [IntKind.wrap_i64]; rfl
 clear hb0 hdv hmd
 go_enter Tryz.func23, Tryz.ntmps23
 go_upto_region 2 with (fail)
 refine AS.region_facts (rqFL a (-b) a b (a / b) (a % b)) (DNo w) [[], [21], [], [23], [22, 24], [], [26], [], [28], [27, 29], [], [31], [25], [30], [32]] [] [[]] [0, 0, 0, 0, 0, 0, 0, 0, 0, 0, 0, 0, 0, 0, 0] [] (fun u => by simp only [rqFL, AS.temps, List.map_cons, List.map_nil, fillL, List.setIfInBounds_toArray, List.set_cons_zero, List.set_cons_succ]; rfl) (by kernel_rfl) (by kernel_rfl) (DNo.st w) (dc_drew (Below.refl _ _)) ?_ ?_
 ·refine AS.sc rfl rfl rfl ?_ ?_
  ·intro k_ u w_ hk hJ hF K hK
   clear hF
   go_simp
   exact hK.out _ _ (Below.refl _ _) (rfl) trivial
  refine AS.sc rfl rfl rfl ?_ ?_
  ·intro k_ u w_ hk hJ hF K hK
   have h21 : u 21 = .int .i64 a := AS.facts_get hF 21 (by simp)
   clear hF
   simp only [h21] at hK ⊢
   clear h21
   go_simp
   refine (HS.out _).mono ?_
   rintro e w' ⟨rfl, rfl⟩
   exact hK.out _ _ (Below.refl _ _) rfl trivial
  refine AS.sc rfl rfl rfl ?_ ?_
  ·intro k_ u w_ hk hJ hF K hK
   clear hF
   go_simp
   exact hK.out _ _ (Below.refl _ _) (rfl) trivial
  refine AS.sc rfl rfl rfl ?_ ?_
  ·intro k_ u w_ hk hJ hF K hK
   have h23 : u 23 = .int .i64 (-b) := AS.facts_get hF 23 (by simp)
   clear hF
   simp only [h23] at hK ⊢
   clear h23
   go_simp
   refine (HT.out _).mono ?_
   rintro e w' ⟨rfl, rfl⟩
   exact hK.out _ _ (Below.refl _ _) rfl trivial
  refine AS.sc rfl rfl rfl ?_ ?_
  ·intro k_ u w_ hk hJ hF K hK
   have h22 : u 22 = .int .i64 a := AS.facts_get hF 22 (by simp)
   have h24 : u 24 = .int .i64 b := AS.facts_get hF 24 (by simp)
   clear hF
   simp only [h22, h24] at hK ⊢
   clear h22 h24
   have o0 := HB0.out
   have o1 := HDV.out
   have o2 := HMD.out
   go_simp
   exact hK.out _ _ (Below.refl _ _) rfl trivial
  refine AS.sc rfl rfl rfl ?_ ?_
  ·intro k_ u w_ hk hJ hF K hK
   clear hF
   go_simp
   exact hK.out _ _ (Below.refl _ _) (rfl) trivial
  refine AS.sc rfl rfl rfl ?_ ?_
  ·intro k_ u w_ hk hJ hF K hK
   have h26 : u 26 = .int .i64 a := AS.facts_get hF 26 (by simp)
   clear hF
   simp only [h26] at hK ⊢
   clear h26
   go_simp
   refine (HS.out _).mono ?_
   rintro e w' ⟨rfl, rfl⟩
   exact hK.out _ _ (Below.refl _ _) rfl trivial
  refine AS.sc rfl rfl rfl ?_ ?_
  ·intro k_ u w_ hk hJ hF K hK
   clear hF
   go_simp
   exact hK.out _ _ (Below.refl _ _) (rfl) trivial
  refine AS.sc rfl rfl rfl ?_ ?_
  ·intro k_ u w_ hk hJ hF K hK
   have h28 : u 28 = .int .i64 (-b) := AS.facts_get hF 28 (by simp)
   clear hF
   simp only [h28] at hK ⊢
   clear h28
   go_simp
   refine (HT.out _).mono ?_
   rintro e w' ⟨rfl, rfl⟩
   exact hK.out _ _ (Below.refl _ _) rfl trivial
  refine AS.sc rfl rfl rfl ?_ ?_
  ·intro k_ u w_ hk hJ hF K hK
   have h27 : u 27 = .int .i64 a := AS.facts_get hF 27 (by simp)
   have h29 : u 29 = .int .i64 b := AS.facts_get hF 29 (by simp)
   clear hF
   simp only [h27, h29] at hK ⊢
   clear h27 h29
   have o0 := HB0.out
   have o1 := HDV.out
   have o2 := HMD.out
   go_simp
   exact hK.out _ _ (Below.refl _ _) rfl trivial
  refine AS.sc rfl rfl rfl ?_ ?_
  ·intro k_ u w_ hk hJ hF K hK
   clear hF
   go_simp
   exact hK.out _ _ (Below.refl _ _) (rfl) trivial
  refine AS.sc rfl rfl rfl ?_ ?_
  ·intro k_ u w_ hk hJ hF K hK
   have h31 : u 31 = .int .i64 (-b) := AS.facts_get hF 31 (by simp)
   clear hF
   simp only [h31] at hK ⊢
   clear h31
   go_simp
   refine (HT.out _).mono ?_
   rintro e w' ⟨rfl, rfl⟩
   exact hK.out _ _ (Below.refl _ _) rfl trivial
  refine AS.sc rfl rfl rfl ?_ ?_
  ·intro k_ u w_ hk hJ hF K hK
   have h25 : u 25 = .int .i64 (a / b) := AS.facts_get hF 25 (by simp)
   clear hF
   simp only [h25] at hK ⊢
   clear h25
   go_simp
   exact hK.out _ _ (Below.refl _ _) rfl trivial
  refine AS.sc rfl rfl rfl ?_ ?_
  ·intro k_ u w_ hk hJ hF K hK
   have h30 : u 30 = .int .i64 (a % b) := AS.facts_get hF 30 (by simp)
   clear hF
   simp only [h30] at hK ⊢
   clear h30
   go_simp
   exact hK.out _ _ (Below.refl _ _) rfl trivial
  refine AS.sc rfl rfl rfl ?_ ?_
  ·intro k_ u w_ hk hJ hF K hK
   have h32 : u 32 = .int .i64 b := AS.facts_get hF 32 (by simp)
   clear hF
   simp only [h32] at hK ⊢
   clear h32
   go_simp
   exact hK.out _ _ (Below.refl _ _) rfl trivial
  exact AS.StepsOk.nil
 ·intro u W3 hJ9 hF
  have h8 : u 8 = .int .i64 (a / b) := AS.facts_get hF 8 (by simp [rqFL, AS.temps])
  have h9 : u 9 = .int .i64 (a % b) := AS.facts_get hF 9 (by simp [rqFL, AS.temps])
  have h10 : u 10 = .int .i64 b := AS.facts_get hF 10 (by simp [rqFL, AS.temps])
  clear hF
  rw [show u 8 = _ from h8, show u 9 = _ from h9, show u 10 = _ from h10]
  clear h8 h9 h10
  generalize a / b = x at *
  generalize a % b = r at *
  have hc : m = 0 ∨ m = 1 ∨ m = 2 ∨ m = 3 ∨ m = 4 ∨ m = 5 := by omega
  clear hm0 hm1
  rcases hc with rfl | rfl | rfl | rfl | rfl | rfl
  ·by_cases hr : 2 * r < b
   all_goals
    go_wp2_with fail
    go_ret
    exact ⟨dret_int (by rw [← HZ.out]; simp [sgn, rqN, upN, hr] <;> omega), hJ9⟩
  ·by_cases hr : 2 * r = b
   ·have hr1 : b ≤ 2 * r := by omega
    by_cases hx : x % 2 = 0
    ·have hx1 : (x % 2 == 1) = false := by simp; omega
     have hr2 : (2 * r == b) = true := by simpa using hr
     have hr3 : decide (b < 2 * r) = false := decide_eq_false (by omega)
     have HR := Lib.hid hr
     have HX := Lib.hid hx
     clear hr hx
     go_wp2_with fail
     go_ret
     exact ⟨dret_int (by rw [← HZ.out]; simp [sgn, rqN, upN, HR.out, HX.out] <;> omega), hJ9⟩
    ·have hx1 : (x % 2 == 1) = true := by simp; omega
     have hr2 : (2 * r == b) = true := by simpa using hr
     have hr3 : decide (b < 2 * r) = false := decide_eq_false (by omega)
     have hr4 : r ≠ 0 := by omega
     have HR := Lib.hid hr
     have HX := Lib.hid hx
     have H4 := Lib.hid hr4
     clear hr hx hr4
     go_wp2_with fail
     go_ret
     exact ⟨dret_int (by rw [← HZ.out]; simp [sgn, rqN, upN, HR.out, HX.out, H4.out] <;> omega), hJ9⟩
   ·have hr2 : (2 * r == b) = false := by simpa using hr
    have HR := Lib.hid hr
    clear hr
    by_cases hl : b < 2 * r
    ·have hr4 : r ≠ 0 := by omega
     have hl2 : ¬ 2 * r < b := by omega
     have H4 := Lib.hid hr4
     have HL := Lib.hid hl2
     clear hr4 hl2
     go_wp2_with fail
     go_ret
     exact ⟨dret_int (by rw [← HZ.out]; simp [sgn, rqN, upN, HR.out, HL.out, H4.out] <;> omega), hJ9⟩
    ·have hl1 : decide (b < 2 * r) = false := decide_eq_false hl
     have hl2 : 2 * r < b := by have := HR.out; omega
     have HL := Lib.hid hl2
     clear hl hl2
     go_wp2_with fail
     go_ret
     exact ⟨dret_int (by rw [← HZ.out]; simp [sgn, rqN, upN, HR.out, HL.out] <;> omega), hJ9⟩
  ·go_wp2_with fail
   go_ret
   exact ⟨dret_int (by rw [← HZ.out]; simp [sgn, rqN, upN]), hJ9⟩
  ·by_cases hr : r = 0
   ·subst hr
    go_wp2_with fail
    go_ret
    exact ⟨dret_int (by rw [← HZ.out]; simp [sgn, rqN, upN]), hJ9⟩
   ·have hr1 : 0 < r := by omega
    have HR := Lib.hid hr
    clear hr
    go_wp2_with fail
    go_ret
    exact ⟨dret_int (by rw [← HZ.out]; simp [sgn, rqN, upN, HR.out] <;> omega), hJ9⟩
  ·by_cases hr : r = 0
   ·subst hr
    go_wp2_with fail
    go_ret
    exact ⟨dret_int (by rw [← HZ.out]; simp [sgn, rqN, upN]), hJ9⟩
   ·have hr1 : 0 < r := by omega
    have HR := Lib.hid hr
    clear hr
    go_wp2_with fail
    go_ret
    exact ⟨dret_int (by rw [← HZ.out]; simp [sgn, rqN, upN, HR.out] <;> omega), hJ9⟩
  ·by_cases hr : r = 0
   ·subst hr
    go_wp2_with fail
    go_ret
    exact ⟨dret_int (by rw [← HZ.out]; simp [sgn, rqN, upN]), hJ9⟩
   ·have hr1 : 0 < r := by omega
    have HR := Lib.hid hr
    clear hr
    go_wp2_with fail
    go_ret
    exact ⟨dret_int (by rw [← HZ.out]; simp [sgn, rqN, upN, HR.out] <;> omega), hJ9⟩
set_option maxRecDepth 20000 in
set_option maxHeartbeats 3200000 in
theorem rq_10 (m a b : Int) (w : World) (hm0 : 0 ≤ m) (hm1 : m ≤ 5) (h1 : 0 < a) (h2 : a ≤ 1000000000000000000) (h3 : 0 < b) (h4 : b ≤ 1000000000000000000) :
  Calls Tryz.prog 23 #[.int .i64 (-a), .int .i64 b, .int .i64 m] w fun e w' => e = .returned (.int .i64 (sgn true (rqN m true (a / b) (a % b) b))) ∧ Below w.heap.size w w' := by
 obtain ⟨z, hz⟩ : ∃ z, sgn true (rqN m true (a / b) (a % b) b) = z := ⟨_, rfl⟩
 rw [hz]
 have HZ := Lib.hid hz
 clear hz
 have q0 : 0 ≤ a / b := Int.ediv_nonneg (by omega) (by omega)
 have q2 : a / b ≤ 1000000000000000000 := Int.le_trans (Int.ediv_le_self _ (by omega)) h2
 have q3 : 0 ≤ a % b := Int.emod_nonneg _ (by omega)
 have q4 : a % b < b := Int.emod_lt_of_pos _ h3
 have hz : (b == 0) = false := by simp; omega
 have hza : (a == 0) = false := by simp; omega
 have hzb : ((-a) != 0) = true := by simp; omega
 have hzc : ((-a) == 0) = false := by simp; omega
 have h0 : 0 ≤ a := by omega
 have hs : ∀ w, Calls Tryz.prog 17 #[.int .i64 (-a)] w fun e w' => e = .returned (.int .i64 a) ∧ w = w' := fun w => (size_any (-a) w (by omega) (by omega)).mono fun _ _ h => by rw [show (((-a) : Int).natAbs : Int) = a by omega] at h; exact h
 have ht : ∀ w, Calls Tryz.prog 17 #[.int .i64 b] w fun e w' => e = .returned (.int .i64 b) ∧ w = w' := fun w => (size_any b w (by omega) (by omega)).mono fun _ _ h => by rw [show ((b : Int).natAbs : Int) = b by omega] at h; exact h
 have HS := Lib.hid hs
 have HT := Lib.hid ht
 clear hs ht
 have nb : decide (b < 0) = false := decide_eq_false (by omega)
 have hb0 : ¬ b = 0 := by omega
 have hdv : IntKind.i64.wrap ((a : Int).tdiv b) = a / b := by rw [Int.tdiv_eq_ediv_of_nonneg (by omega), IntKind.wrap_i64]; omega
 have hmd : (a : Int).tmod b = a % b := Int.tmod_eq_emod_of_nonneg (by omega)
 have HB0 := Lib.hid hb0
 have HDV := Lib.hid hdv
 have HMD := Lib.hid hmd
 have hw0 : IntKind.i64.wrap 0 = 0 := by rw [IntKind.wrap_i64]; rfl
 clear hb0 hdv hmd
 go_enter Tryz.func23, Tryz.ntmps23
 go_upto_region 2 with (fail)
 refine AS.region_facts (rqFL (-a) b a b (a / b) (a % b)) (DNo w) [[], [21], [], [23], [22, 24], [], [26], [], [28], [27, 29], [], [31], [25], [30], [32]] [] [[]] [0, 0, 0, 0, 0, 0, 0, 0, 0, 0, 0, 0, 0, 0, 0] [] (fun u => by simp only [rqFL, AS.temps, List.map_cons, List.map_nil, fillL, List.setIfInBounds_toArray, List.set_cons_zero, List.set_cons_succ]; rfl) (by kernel_rfl) (by kernel_rfl) (DNo.st w) (dc_drew (Below.refl _ _)) ?_ ?_
 ·refine AS.sc rfl rfl rfl ?_ ?_
  ·intro k_ u w_ hk hJ hF K hK
   clear hF
   go_simp
   exact hK.out _ _ (Below.refl _ _) (rfl) trivial
  refine AS.sc rfl rfl rfl ?_ ?_
  ·intro k_ u w_ hk hJ hF K hK
   have h21 : u 21 = .int .i64 (-a) := AS.facts_get hF 21 (by simp)
   clear hF
   simp only [h21] at hK ⊢
   clear h21
   go_simp
   refine (HS.out _).mono ?_
   rintro e w' ⟨rfl, rfl⟩
   exact hK.out _ _ (Below.refl _ _) rfl trivial
  refine AS.sc rfl rfl rfl ?_ ?_
  ·intro k_ u w_ hk hJ hF K hK
   clear hF
   go_simp
   exact hK.out _ _ (Below.refl _ _) (rfl) trivial
  refine AS.sc rfl rfl rfl ?_ ?_
  ·intro k_ u w_ hk hJ hF K hK
   have h23 : u 23 = .int .i64 b := AS.facts_get hF 23 (by simp)
   clear hF
   simp only [h23] at hK ⊢
   clear h23
   go_simp
   refine (HT.out _).mono ?_
   rintro e w' ⟨rfl, rfl⟩
   exact hK.out _ _ (Below.refl _ _) rfl trivial
  refine AS.sc rfl rfl rfl ?_ ?_
  ·intro k_ u w_ hk hJ hF K hK
   have h22 : u 22 = .int .i64 a := AS.facts_get hF 22 (by simp)
   have h24 : u 24 = .int .i64 b := AS.facts_get hF 24 (by simp)
   clear hF
   simp only [h22, h24] at hK ⊢
   clear h22 h24
   have o0 := HB0.out
   have o1 := HDV.out
   have o2 := HMD.out
   go_simp
   exact hK.out _ _ (Below.refl _ _) rfl trivial
  refine AS.sc rfl rfl rfl ?_ ?_
  ·intro k_ u w_ hk hJ hF K hK
   clear hF
   go_simp
   exact hK.out _ _ (Below.refl _ _) (rfl) trivial
  refine AS.sc rfl rfl rfl ?_ ?_
  ·intro k_ u w_ hk hJ hF K hK
   have h26 : u 26 = .int .i64 (-a) := AS.facts_get hF 26 (by simp)
   clear hF
   simp only [h26] at hK ⊢
   clear h26
   go_simp
   refine (HS.out _).mono ?_
   rintro e w' ⟨rfl, rfl⟩
   exact hK.out _ _ (Below.refl _ _) rfl trivial
  refine AS.sc rfl rfl rfl ?_ ?_
  ·intro k_ u w_ hk hJ hF K hK
   clear hF
   go_simp
   exact hK.out _ _ (Below.refl _ _) (rfl) trivial
  refine AS.sc rfl rfl rfl ?_ ?_
  ·intro k_ u w_ hk hJ hF K hK
   have h28 : u 28 = .int .i64 b := AS.facts_get hF 28 (by simp)
   clear hF
   simp only [h28] at hK ⊢
   clear h28
   go_simp
   refine (HT.out _).mono ?_
   rintro e w' ⟨rfl, rfl⟩
   exact hK.out _ _ (Below.refl _ _) rfl trivial
  refine AS.sc rfl rfl rfl ?_ ?_
  ·intro k_ u w_ hk hJ hF K hK
   have h27 : u 27 = .int .i64 a := AS.facts_get hF 27 (by simp)
   have h29 : u 29 = .int .i64 b := AS.facts_get hF 29 (by simp)
   clear hF
   simp only [h27, h29] at hK ⊢
   clear h27 h29
   have o0 := HB0.out
   have o1 := HDV.out
   have o2 := HMD.out
   go_simp
   exact hK.out _ _ (Below.refl _ _) rfl trivial
  refine AS.sc rfl rfl rfl ?_ ?_
  ·intro k_ u w_ hk hJ hF K hK
   clear hF
   go_simp
   exact hK.out _ _ (Below.refl _ _) (rfl) trivial
  refine AS.sc rfl rfl rfl ?_ ?_
  ·intro k_ u w_ hk hJ hF K hK
   have h31 : u 31 = .int .i64 b := AS.facts_get hF 31 (by simp)
   clear hF
   simp only [h31] at hK ⊢
   clear h31
   go_simp
   refine (HT.out _).mono ?_
   rintro e w' ⟨rfl, rfl⟩
   exact hK.out _ _ (Below.refl _ _) rfl trivial
  refine AS.sc rfl rfl rfl ?_ ?_
  ·intro k_ u w_ hk hJ hF K hK
   have h25 : u 25 = .int .i64 (a / b) := AS.facts_get hF 25 (by simp)
   clear hF
   simp only [h25] at hK ⊢
   clear h25
   go_simp
   exact hK.out _ _ (Below.refl _ _) rfl trivial
  refine AS.sc rfl rfl rfl ?_ ?_
  ·intro k_ u w_ hk hJ hF K hK
   have h30 : u 30 = .int .i64 (a % b) := AS.facts_get hF 30 (by simp)
   clear hF
   simp only [h30] at hK ⊢
   clear h30
   go_simp
   exact hK.out _ _ (Below.refl _ _) rfl trivial
  refine AS.sc rfl rfl rfl ?_ ?_
  ·intro k_ u w_ hk hJ hF K hK
   have h32 : u 32 = .int .i64 b := AS.facts_get hF 32 (by simp)
   clear hF
   simp only [h32] at hK ⊢
   clear h32
   go_simp
   exact hK.out _ _ (Below.refl _ _) rfl trivial
  exact AS.StepsOk.nil
 ·intro u W3 hJ9 hF
  have h8 : u 8 = .int .i64 (a / b) := AS.facts_get hF 8 (by simp [rqFL, AS.temps])
  have h9 : u 9 = .int .i64 (a % b) := AS.facts_get hF 9 (by simp [rqFL, AS.temps])
  have h10 : u 10 = .int .i64 b := AS.facts_get hF 10 (by simp [rqFL, AS.temps])
  clear hF
  rw [show u 8 = _ from h8, show u 9 = _ from h9, show u 10 = _ from h10]
  clear h8 h9 h10
  generalize a / b = x at *
  generalize a % b = r at *
  have hc : m = 0 ∨ m = 1 ∨ m = 2 ∨ m = 3 ∨ m = 4 ∨ m = 5 := by omega
  clear hm0 hm1
  rcases hc with rfl | rfl | rfl | rfl | rfl | rfl
  ·by_cases hr : 2 * r < b
   all_goals
    go_wp2_with fail
    go_ret
    exact ⟨dret_int (by rw [← HZ.out]; simp [sgn, rqN, upN, hr] <;> omega), hJ9⟩
  ·by_cases hr : 2 * r = b
   ·have hr1 : b ≤ 2 * r := by omega
    by_cases hx : x % 2 = 0
    ·have hx1 : (x % 2 == 1) = false := by simp; omega
     have hr2 : (2 * r == b) = true := by simpa using hr
     have hr3 : decide (b < 2 * r) = false := decide_eq_false (by omega)
     have HR := Lib.hid hr
     have HX := Lib.hid hx
     clear hr hx
     go_wp2_with fail
     go_ret
     exact ⟨dret_int (by rw [← HZ.out]; simp [sgn, rqN, upN, HR.out, HX.out] <;> omega), hJ9⟩
    ·have hx1 : (x % 2 == 1) = true := by simp; omega
     have hr2 : (2 * r == b) = true := by simpa using hr
     have hr3 : decide (b < 2 * r) = false := decide_eq_false (by omega)
     have hr4 : r ≠ 0 := by omega
     have HR := Lib.hid hr
     have HX := Lib.hid hx
     have H4 := Lib.hid hr4
     clear hr hx hr4
     go_wp2_with fail
     go_ret
     exact ⟨dret_int (by rw [← HZ.out]; simp [sgn, rqN, upN, HR.out, HX.out, H4.out] <;> omega), hJ9⟩
   ·have hr2 : (2 * r == b) = false := by simpa using hr
    have HR := Lib.hid hr
    clear hr
    by_cases hl : b < 2 * r
    ·have hr4 : r ≠ 0 := by omega
     have hl2 : ¬ 2 * r < b := by omega
     have H4 := Lib.hid hr4
     have HL := Lib.hid hl2
     clear hr4 hl2
     go_wp2_with fail
     go_ret
     exact ⟨dret_int (by rw [← HZ.out]; simp [sgn, rqN, upN, HR.out, HL.out, H4.out] <;> omega), hJ9⟩
    ·have hl1 : decide (b < 2 * r) = false := decide_eq_false hl
     have hl2 : 2 * r < b := by have := HR.out; omega
     have HL := Lib.hid hl2
     clear hl hl2
     go_wp2_with fail
     go_ret
     exact ⟨dret_int (by rw [← HZ.out]; simp [sgn, rqN, upN, HR.out, HL.out] <;> omega), hJ9⟩
  ·go_wp2_with fail
   go_ret
   exact ⟨dret_int (by rw [← HZ.out]; simp [sgn, rqN, upN]), hJ9⟩
  ·by_cases hr : r = 0
   ·subst hr
    go_wp2_with fail
    go_ret
    exact ⟨dret_int (by rw [← HZ.out]; simp [sgn, rqN, upN]), hJ9⟩
   ·have hr1 : 0 < r := by omega
    have HR := Lib.hid hr
    clear hr
    go_wp2_with fail
    go_ret
    exact ⟨dret_int (by rw [← HZ.out]; simp [sgn, rqN, upN, HR.out] <;> omega), hJ9⟩
  ·by_cases hr : r = 0
   ·subst hr
    go_wp2_with fail
    go_ret
    exact ⟨dret_int (by rw [← HZ.out]; simp [sgn, rqN, upN]), hJ9⟩
   ·have hr1 : 0 < r := by omega
    have HR := Lib.hid hr
    clear hr
    go_wp2_with fail
    go_ret
    exact ⟨dret_int (by rw [← HZ.out]; simp [sgn, rqN, upN, HR.out] <;> omega), hJ9⟩
  ·by_cases hr : r = 0
   ·subst hr
    go_wp2_with fail
    go_ret
    exact ⟨dret_int (by rw [← HZ.out]; simp [sgn, rqN, upN]), hJ9⟩
   ·have hr1 : 0 < r := by omega
    have HR := Lib.hid hr
    clear hr
    go_wp2_with fail
    go_ret
    exact ⟨dret_int (by rw [← HZ.out]; simp [sgn, rqN, upN, HR.out] <;> omega), hJ9⟩
set_option maxRecDepth 20000 in
set_option maxHeartbeats 3200000 in
theorem rq_11 (m a b : Int) (w : World) (hm0 : 0 ≤ m) (hm1 : m ≤ 5) (h1 : 0 < a) (h2 : a ≤ 1000000000000000000) (h3 : 0 < b) (h4 : b ≤ 1000000000000000000) :
  Calls Tryz.prog 23 #[.int .i64 (-a), .int .i64 (-b), .int .i64 m] w fun e w' => e = .returned (.int .i64 (sgn false (rqN m false (a / b) (a % b) b))) ∧ Below w.heap.size w w' := by
 obtain ⟨z, hz⟩ : ∃ z, sgn false (rqN m false (a / b) (a % b) b) = z := ⟨_, rfl⟩
 rw [hz]
 have HZ := Lib.hid hz
 clear hz
 have q0 : 0 ≤ a / b := Int.ediv_nonneg (by omega) (by omega)
 have q2 : a / b ≤ 1000000000000000000 := Int.le_trans (Int.ediv_le_self _ (by omega)) h2
 have q3 : 0 ≤ a % b := Int.emod_nonneg _ (by omega)
 have q4 : a % b < b := Int.emod_lt_of_pos _ h3
 have hz : (b == 0) = false := by simp; omega
 have hza : (a == 0) = false := by simp; omega
 have hzb : ((-a) != 0) = true := by simp; omega
 have hzc : ((-a) == 0) = false := by simp; omega
 have h0 : 0 ≤ a := by omega
 have hs : ∀ w, Calls Tryz.prog 17 #[.int .i64 (-a)] w fun e w' => e = .returned (.int .i64 a) ∧ w = w' := fun w => (size_any (-a) w (by omega) (by omega)).mono fun _ _ h => by rw [show (((-a) : Int).natAbs : Int) = a by omega] at h; exact h
 have ht : ∀ w, Calls Tryz.prog 17 #[.int .i64 (-b)] w fun e w' => e = .returned (.int .i64 b) ∧ w = w' := fun w => (size_any (-b) w (by omega) (by omega)).mono fun _ _ h => by rw [show (((-b) : Int).natAbs : Int) = b by omega] at h; exact h
 have HS := Lib.hid hs
 have HT := Lib.hid ht
 clear hs ht
 have hb0 : ¬ b = 0 := by omega
 have hdv : IntKind.i64.wrap ((a : Int).tdiv b) = a / b := by rw [Int.tdiv_eq_ediv_of_nonneg (by omega), IntKind.wrap_i64]; omega
 have hmd : (a : Int).tmod b = a % b := Int.tmod_eq_emod_of_nonneg (by omega)
 have HB0 := Lib.hid hb0
 have HDV := Lib.hid hdv
 have HMD := Lib.hid hmd
 have hw0 : IntKind.i64.wrap 0 = 0 := by rw [IntKind.wrap_i64]; rfl
 clear hb0 hdv hmd
 go_enter Tryz.func23, Tryz.ntmps23
 go_upto_region 2 with (fail)
 refine AS.region_facts (rqFL (-a) (-b) a b (a / b) (a % b)) (DNo w) [[], [21], [], [23], [22, 24], [], [26], [], [28], [27, 29], [], [31], [25], [30], [32]] [] [[]] [0, 0, 0, 0, 0, 0, 0, 0, 0, 0, 0, 0, 0, 0, 0] [] (fun u => by simp only [rqFL, AS.temps, List.map_cons, List.map_nil, fillL, List.setIfInBounds_toArray, List.set_cons_zero, List.set_cons_succ]; rfl) (by kernel_rfl) (by kernel_rfl) (DNo.st w) (dc_drew (Below.refl _ _)) ?_ ?_
 ·refine AS.sc rfl rfl rfl ?_ ?_
  ·intro k_ u w_ hk hJ hF K hK
   clear hF
   go_simp
   exact hK.out _ _ (Below.refl _ _) (rfl) trivial
  refine AS.sc rfl rfl rfl ?_ ?_
  ·intro k_ u w_ hk hJ hF K hK
   have h21 : u 21 = .int .i64 (-a) := AS.facts_get hF 21 (by simp)
   clear hF
   simp only [h21] at hK ⊢
   clear h21
   go_simp
   refine (HS.out _).mono ?_
   rintro e w' ⟨rfl, rfl⟩
   exact hK.out _ _ (Below.refl _ _) rfl trivial
  refine AS.sc rfl rfl rfl ?_ ?_
  ·intro k_ u w_ hk hJ hF K hK
   clear hF
   go_simp
   exact hK.out _ _ (Below.refl _ _) (rfl) trivial
  refine AS.sc rfl rfl rfl ?_ ?_
  ·intro k_ u w_ hk hJ hF K hK
   have h23 : u 23 = .int .i64 (-b) := AS.facts_get hF 23 (by simp)
   clear hF
   simp only [h23] at hK ⊢
   clear h23
   go_simp
   refine (HT.out _).mono ?_
   rintro e w' ⟨rfl, rfl⟩
   exact hK.out _ _ (Below.refl _ _) rfl trivial
  refine AS.sc rfl rfl rfl ?_ ?_
  ·intro k_ u w_ hk hJ hF K hK
   have h22 : u 22 = .int .i64 a := AS.facts_get hF 22 (by simp)
   have h24 : u 24 = .int .i64 b := AS.facts_get hF 24 (by simp)
   clear hF
   simp only [h22, h24] at hK ⊢
   clear h22 h24
   have o0 := HB0.out
   have o1 := HDV.out
   have o2 := HMD.out
   go_simp
   exact hK.out _ _ (Below.refl _ _) rfl trivial
  refine AS.sc rfl rfl rfl ?_ ?_
  ·intro k_ u w_ hk hJ hF K hK
   clear hF
   go_simp
   exact hK.out _ _ (Below.refl _ _) (rfl) trivial
  refine AS.sc rfl rfl rfl ?_ ?_
  ·intro k_ u w_ hk hJ hF K hK
   have h26 : u 26 = .int .i64 (-a) := AS.facts_get hF 26 (by simp)
   clear hF
   simp only [h26] at hK ⊢
   clear h26
   go_simp
   refine (HS.out _).mono ?_
   rintro e w' ⟨rfl, rfl⟩
   exact hK.out _ _ (Below.refl _ _) rfl trivial
  refine AS.sc rfl rfl rfl ?_ ?_
  ·intro k_ u w_ hk hJ hF K hK
   clear hF
   go_simp
   exact hK.out _ _ (Below.refl _ _) (rfl) trivial
  refine AS.sc rfl rfl rfl ?_ ?_
  ·intro k_ u w_ hk hJ hF K hK
   have h28 : u 28 = .int .i64 (-b) := AS.facts_get hF 28 (by simp)
   clear hF
   simp only [h28] at hK ⊢
   clear h28
   go_simp
   refine (HT.out _).mono ?_
   rintro e w' ⟨rfl, rfl⟩
   exact hK.out _ _ (Below.refl _ _) rfl trivial
  refine AS.sc rfl rfl rfl ?_ ?_
  ·intro k_ u w_ hk hJ hF K hK
   have h27 : u 27 = .int .i64 a := AS.facts_get hF 27 (by simp)
   have h29 : u 29 = .int .i64 b := AS.facts_get hF 29 (by simp)
   clear hF
   simp only [h27, h29] at hK ⊢
   clear h27 h29
   have o0 := HB0.out
   have o1 := HDV.out
   have o2 := HMD.out
   go_simp
   exact hK.out _ _ (Below.refl _ _) rfl trivial
  refine AS.sc rfl rfl rfl ?_ ?_
  ·intro k_ u w_ hk hJ hF K hK
   clear hF
   go_simp
   exact hK.out _ _ (Below.refl _ _) (rfl) trivial
  refine AS.sc rfl rfl rfl ?_ ?_
  ·intro k_ u w_ hk hJ hF K hK
   have h31 : u 31 = .int .i64 (-b) := AS.facts_get hF 31 (by simp)
   clear hF
   simp only [h31] at hK ⊢
   clear h31
   go_simp
   refine (HT.out _).mono ?_
   rintro e w' ⟨rfl, rfl⟩
   exact hK.out _ _ (Below.refl _ _) rfl trivial
  refine AS.sc rfl rfl rfl ?_ ?_
  ·intro k_ u w_ hk hJ hF K hK
   have h25 : u 25 = .int .i64 (a / b) := AS.facts_get hF 25 (by simp)
   clear hF
   simp only [h25] at hK ⊢
   clear h25
   go_simp
   exact hK.out _ _ (Below.refl _ _) rfl trivial
  refine AS.sc rfl rfl rfl ?_ ?_
  ·intro k_ u w_ hk hJ hF K hK
   have h30 : u 30 = .int .i64 (a % b) := AS.facts_get hF 30 (by simp)
   clear hF
   simp only [h30] at hK ⊢
   clear h30
   go_simp
   exact hK.out _ _ (Below.refl _ _) rfl trivial
  refine AS.sc rfl rfl rfl ?_ ?_
  ·intro k_ u w_ hk hJ hF K hK
   have h32 : u 32 = .int .i64 b := AS.facts_get hF 32 (by simp)
   clear hF
   simp only [h32] at hK ⊢
   clear h32
   go_simp
   exact hK.out _ _ (Below.refl _ _) rfl trivial
  exact AS.StepsOk.nil
 ·intro u W3 hJ9 hF
  have h8 : u 8 = .int .i64 (a / b) := AS.facts_get hF 8 (by simp [rqFL, AS.temps])
  have h9 : u 9 = .int .i64 (a % b) := AS.facts_get hF 9 (by simp [rqFL, AS.temps])
  have h10 : u 10 = .int .i64 b := AS.facts_get hF 10 (by simp [rqFL, AS.temps])
  clear hF
  rw [show u 8 = _ from h8, show u 9 = _ from h9, show u 10 = _ from h10]
  clear h8 h9 h10
  generalize a / b = x at *
  generalize a % b = r at *
  have hc : m = 0 ∨ m = 1 ∨ m = 2 ∨ m = 3 ∨ m = 4 ∨ m = 5 := by omega
  clear hm0 hm1
  rcases hc with rfl | rfl | rfl | rfl | rfl | rfl
  ·by_cases hr : 2 * r < b
   all_goals
    go_wp2_with fail
    go_ret
    exact ⟨dret_int (by rw [← HZ.out]; simp [sgn, rqN, upN, hr] <;> omega), hJ9⟩
  ·by_cases hr : 2 * r = b
   ·have hr1 : b ≤ 2 * r := by omega
    by_cases hx : x % 2 = 0
    ·have hx1 : (x % 2 == 1) = false := by simp; omega
     have hr2 : (2 * r == b) = true := by simpa using hr
     have hr3 : decide (b < 2 * r) = false := decide_eq_false (by omega)
     have HR := Lib.hid hr
     have HX := Lib.hid hx
     clear hr hx
     go_wp2_with fail
     go_ret
     exact ⟨dret_int (by rw [← HZ.out]; simp [sgn, rqN, upN, HR.out, HX.out] <;> omega), hJ9⟩
    ·have hx1 : (x % 2 == 1) = true := by simp; omega
     have hr2 : (2 * r == b) = true := by simpa using hr
     have hr3 : decide (b < 2 * r) = false := decide_eq_false (by omega)
     have hr4 : r ≠ 0 := by omega
     have HR := Lib.hid hr
     have HX := Lib.hid hx
     have H4 := Lib.hid hr4
     clear hr hx hr4
     go_wp2_with fail
     go_ret
     exact ⟨dret_int (by rw [← HZ.out]; simp [sgn, rqN, upN, HR.out, HX.out, H4.out] <;> omega), hJ9⟩
   ·have hr2 : (2 * r == b) = false := by simpa using hr
    have HR := Lib.hid hr
    clear hr
    by_cases hl : b < 2 * r
    ·have hr4 : r ≠ 0 := by omega
     have hl2 : ¬ 2 * r < b := by omega
     have H4 := Lib.hid hr4
     have HL := Lib.hid hl2
     clear hr4 hl2
     go_wp2_with fail
     go_ret
     exact ⟨dret_int (by rw [← HZ.out]; simp [sgn, rqN, upN, HR.out, HL.out, H4.out] <;> omega), hJ9⟩
    ·have hl1 : decide (b < 2 * r) = false := decide_eq_false hl
     have hl2 : 2 * r < b := by have := HR.out; omega
     have HL := Lib.hid hl2
     clear hl hl2
     go_wp2_with fail
     go_ret
     exact ⟨dret_int (by rw [← HZ.out]; simp [sgn, rqN, upN, HR.out, HL.out] <;> omega), hJ9⟩
  ·go_wp2_with fail
   go_ret
   exact ⟨dret_int (by rw [← HZ.out]; simp [sgn, rqN, upN]), hJ9⟩
  ·by_cases hr : r = 0
   ·subst hr
    go_wp2_with fail
    go_ret
    exact ⟨dret_int (by rw [← HZ.out]; simp [sgn, rqN, upN]), hJ9⟩
   ·have hr1 : 0 < r := by omega
    have HR := Lib.hid hr
    clear hr
    go_wp2_with fail
    go_ret
    exact ⟨dret_int (by rw [← HZ.out]; simp [sgn, rqN, upN, HR.out] <;> omega), hJ9⟩
  ·by_cases hr : r = 0
   ·subst hr
    go_wp2_with fail
    go_ret
    exact ⟨dret_int (by rw [← HZ.out]; simp [sgn, rqN, upN]), hJ9⟩
   ·have hr1 : 0 < r := by omega
    have HR := Lib.hid hr
    clear hr
    go_wp2_with fail
    go_ret
    exact ⟨dret_int (by rw [← HZ.out]; simp [sgn, rqN, upN, HR.out] <;> omega), hJ9⟩
  ·by_cases hr : r = 0
   ·subst hr
    go_wp2_with fail
    go_ret
    exact ⟨dret_int (by rw [← HZ.out]; simp [sgn, rqN, upN]), hJ9⟩
   ·have hr1 : 0 < r := by omega
    have HR := Lib.hid hr
    clear hr
    go_wp2_with fail
    go_ret
    exact ⟨dret_int (by rw [← HZ.out]; simp [sgn, rqN, upN, HR.out] <;> omega), hJ9⟩
set_option maxRecDepth 20000 in
set_option maxHeartbeats 3200000 in
theorem rq_20 (m b : Int) (w : World) (hm0 : 0 ≤ m) (hm1 : m ≤ 5) (h3 : b ≠ 0) (h4 : -1000000000000000000 ≤ b) (h5 : b ≤ 1000000000000000000) :
  Calls Tryz.prog 23 #[.int .i64 0, .int .i64 b, .int .i64 m] w fun e w' => e = .returned (.int .i64 (0)) ∧ Below w.heap.size w w' := by
 have hs : ∀ w, Calls Tryz.prog 17 #[.int .i64 0] w fun e w' => e = .returned (.int .i64 0) ∧ w = w' := fun w => size_any 0 w (by omega) (by omega)
 have ht : ∀ w, Calls Tryz.prog 17 #[.int .i64 b] w fun e w' => e = .returned (.int .i64 (b.natAbs : Int)) ∧ w = w' := fun w => size_any b w (by omega) (by omega)
 have HS := Lib.hid hs
 have HT := Lib.hid ht
 obtain ⟨B, hB⟩ : ∃ B, (b.natAbs : Int) = B := ⟨_, rfl⟩
 have hB0 : 0 < B := by omega
 rw [hB] at HT
 clear hs ht hB h3 h4 h5
 have hz : (B == 0) = false := by simp; omega
 have q0 : (0 : Int) / B = 0 := Int.zero_ediv _
 have q1 : (0 : Int) % B = 0 := Int.zero_emod _
 have Q0 := Lib.hid q0
 have Q1 := Lib.hid q1
 clear q0 q1
 have hb0 : ¬ B = 0 := by omega
 have hdv : IntKind.i64.wrap ((0 : Int).tdiv B) = 0 / B := by rw [Int.tdiv_eq_ediv_of_nonneg (by omega), IntKind.wrap_i64]; rw [Q0.out]; rfl
 have hmd : (0 : Int).tmod B = 0 % B := Int.tmod_eq_emod_of_nonneg (by omega)
 have HB0 := Lib.hid hb0
 have HDV := Lib.hid hdv
 have HMD := Lib.hid hmd
 have hw0 : IntKind.i64.wrap 0 = 0 := by rw [IntKind.wrap_i64]; rfl
 clear hb0 hdv hmd
 go_enter Tryz.func23, Tryz.ntmps23
 go_upto_region 2 with (fail)
 refine AS.region_facts (rqFL 0 b 0 B 0 0) (DNo w) [[], [21], [], [23], [22, 24], [], [26], [], [28], [27, 29], [], [31], [25], [30], [32]] [] [[]] [0, 0, 0, 0, 0, 0, 0, 0, 0, 0, 0, 0, 0, 0, 0] [] (fun u => by simp only [rqFL, AS.temps, List.map_cons, List.map_nil, fillL, List.setIfInBounds_toArray, List.set_cons_zero, List.set_cons_succ]; rfl) (by kernel_rfl) (by kernel_rfl) (DNo.st w) (dc_drew (Below.refl _ _)) ?_ ?_
 ·refine AS.sc rfl rfl rfl ?_ ?_
  ·intro k_ u w_ hk hJ hF K hK
   clear hF
   go_simp
   exact hK.out _ _ (Below.refl _ _) (rfl) trivial
  refine AS.sc rfl rfl rfl ?_ ?_
  ·intro k_ u w_ hk hJ hF K hK
   have h21 : u 21 = .int .i64 0 := AS.facts_get hF 21 (by simp)
   clear hF
   simp only [h21] at hK ⊢
   clear h21
   go_simp
   refine (HS.out _).mono ?_
   rintro e w' ⟨rfl, rfl⟩
   exact hK.out _ _ (Below.refl _ _) rfl trivial
  refine AS.sc rfl rfl rfl ?_ ?_
  ·intro k_ u w_ hk hJ hF K hK
   clear hF
   go_simp
   exact hK.out _ _ (Below.refl _ _) (rfl) trivial
  refine AS.sc rfl rfl rfl ?_ ?_
  ·intro k_ u w_ hk hJ hF K hK
   have h23 : u 23 = .int .i64 b := AS.facts_get hF 23 (by simp)
   clear hF
   simp only [h23] at hK ⊢
   clear h23
   go_simp
   refine (HT.out _).mono ?_
   rintro e w' ⟨rfl, rfl⟩
   exact hK.out _ _ (Below.refl _ _) rfl trivial
  refine AS.sc rfl rfl rfl ?_ ?_
  ·intro k_ u w_ hk hJ hF K hK
   have h22 : u 22 = .int .i64 0 := AS.facts_get hF 22 (by simp)
   have h24 : u 24 = .int .i64 B := AS.facts_get hF 24 (by simp)
   clear hF
   simp only [h22, h24] at hK ⊢
   clear h22 h24
   have o0 := HB0.out
   have o1 := HDV.out
   have o2 := HMD.out
   go_simp
   exact hK.out _ _ (Below.refl _ _) rfl trivial
  refine AS.sc rfl rfl rfl ?_ ?_
  ·intro k_ u w_ hk hJ hF K hK
   clear hF
   go_simp
   exact hK.out _ _ (Below.refl _ _) (rfl) trivial
  refine AS.sc rfl rfl rfl ?_ ?_
  ·intro k_ u w_ hk hJ hF K hK
   have h26 : u 26 = .int .i64 0 := AS.facts_get hF 26 (by simp)
   clear hF
   simp only [h26] at hK ⊢
   clear h26
   go_simp
   refine (HS.out _).mono ?_
   rintro e w' ⟨rfl, rfl⟩
   exact hK.out _ _ (Below.refl _ _) rfl trivial
  refine AS.sc rfl rfl rfl ?_ ?_
  ·intro k_ u w_ hk hJ hF K hK
   clear hF
   go_simp
   exact hK.out _ _ (Below.refl _ _) (rfl) trivial
  refine AS.sc rfl rfl rfl ?_ ?_
  ·intro k_ u w_ hk hJ hF K hK
   have h28 : u 28 = .int .i64 b := AS.facts_get hF 28 (by simp)
   clear hF
   simp only [h28] at hK ⊢
   clear h28
   go_simp
   refine (HT.out _).mono ?_
   rintro e w' ⟨rfl, rfl⟩
   exact hK.out _ _ (Below.refl _ _) rfl trivial
  refine AS.sc rfl rfl rfl ?_ ?_
  ·intro k_ u w_ hk hJ hF K hK
   have h27 : u 27 = .int .i64 0 := AS.facts_get hF 27 (by simp)
   have h29 : u 29 = .int .i64 B := AS.facts_get hF 29 (by simp)
   clear hF
   simp only [h27, h29] at hK ⊢
   clear h27 h29
   have o0 := HB0.out
   have o1 := HDV.out
   have o2 := HMD.out
   go_simp
   exact hK.out _ _ (Below.refl _ _) rfl trivial
  refine AS.sc rfl rfl rfl ?_ ?_
  ·intro k_ u w_ hk hJ hF K hK
   clear hF
   go_simp
   exact hK.out _ _ (Below.refl _ _) (rfl) trivial
  refine AS.sc rfl rfl rfl ?_ ?_
  ·intro k_ u w_ hk hJ hF K hK
   have h31 : u 31 = .int .i64 b := AS.facts_get hF 31 (by simp)
   clear hF
   simp only [h31] at hK ⊢
   clear h31
   go_simp
   refine (HT.out _).mono ?_
   rintro e w' ⟨rfl, rfl⟩
   exact hK.out _ _ (Below.refl _ _) rfl trivial
  refine AS.sc rfl rfl rfl ?_ ?_
  ·intro k_ u w_ hk hJ hF K hK
   have h25 : u 25 = .int .i64 0 := AS.facts_get hF 25 (by simp)
   clear hF
   simp only [h25] at hK ⊢
   clear h25
   go_simp
   exact hK.out _ _ (Below.refl _ _) rfl trivial
  refine AS.sc rfl rfl rfl ?_ ?_
  ·intro k_ u w_ hk hJ hF K hK
   have h30 : u 30 = .int .i64 0 := AS.facts_get hF 30 (by simp)
   clear hF
   simp only [h30] at hK ⊢
   clear h30
   go_simp
   exact hK.out _ _ (Below.refl _ _) rfl trivial
  refine AS.sc rfl rfl rfl ?_ ?_
  ·intro k_ u w_ hk hJ hF K hK
   have h32 : u 32 = .int .i64 B := AS.facts_get hF 32 (by simp)
   clear hF
   simp only [h32] at hK ⊢
   clear h32
   go_simp
   exact hK.out _ _ (Below.refl _ _) rfl trivial
  exact AS.StepsOk.nil
 ·intro u W3 hJ9 hF
  have h8 : u 8 = .int .i64 0 := AS.facts_get hF 8 (by simp [rqFL, AS.temps])
  have h9 : u 9 = .int .i64 0 := AS.facts_get hF 9 (by simp [rqFL, AS.temps])
  have h10 : u 10 = .int .i64 B := AS.facts_get hF 10 (by simp [rqFL, AS.temps])
  clear hF
  rw [show u 8 = _ from h8, show u 9 = _ from h9, show u 10 = _ from h10]
  clear h8 h9 h10
  have hc : m = 0 ∨ m = 1 ∨ m = 2 ∨ m = 3 ∨ m = 4 ∨ m = 5 := by omega
  clear hm0 hm1
  rcases hc with rfl | rfl | rfl | rfl | rfl | rfl
  all_goals
   go_wp2_with fail
   go_ret
   exact ⟨rfl, hJ9⟩
theorem dcquo_any (m a b : Int) (w : World) (hm0 : 0 ≤ m) (hm1 : m ≤ 5) (h1 : -1000000000000000000 ≤ a) (h2 : a ≤ 1000000000000000000) (h3 : -1000000000000000000 ≤ b) (h4 : b ≤ 1000000000000000000) (h0 : b ≠ 0) :
  Calls Tryz.prog 23 #[.int .i64 a, .int .i64 b, .int .i64 m] w fun e w' => e = .returned (.int .i64 (rnd m a b)) ∧ Below w.heap.size w w' := by
 by_cases hz : a = 0
 ·subst hz
  rw [rnd_zero m b hm0 hm1 h0]
  exact rq_20 m b w hm0 hm1 h0 h3 h4
 unfold rnd
 by_cases ha : a < 0
 ·obtain ⟨A, rfl⟩ : ∃ A, a = -A := ⟨-a, by omega⟩
  rw [show ((-A).natAbs : Int) = A by omega]
  by_cases hb : b < 0
  ·obtain ⟨B, rfl⟩ : ∃ B, b = -B := ⟨-b, by omega⟩
   rw [show ((-B).natAbs : Int) = B by omega, show negB (-A) (-B) = false by unfold negB; rw [decide_eq_true ha, decide_eq_true hb]; rfl]
   exact rq_11 m A B w hm0 hm1 (by omega) (by omega) (by omega) (by omega)
  ·rw [show (b.natAbs : Int) = b by omega, show negB (-A) b = true by unfold negB; rw [decide_eq_true ha, decide_eq_false hb]; rfl]
   exact rq_10 m A b w hm0 hm1 (by omega) (by omega) (by omega) (by omega)
 ·rw [show (a.natAbs : Int) = a by omega]
  by_cases hb : b < 0
  ·obtain ⟨B, rfl⟩ : ∃ B, b = -B := ⟨-b, by omega⟩
   rw [show ((-B).natAbs : Int) = B by omega, show negB a (-B) = true by unfold negB; rw [decide_eq_false ha, decide_eq_true hb]; rfl]
   exact rq_01 m a B w hm0 hm1 (by omega) (by omega) (by omega) (by omega)
  ·rw [show (b.natAbs : Int) = b by omega, show negB a b = false by unfold negB; rw [decide_eq_false ha, decide_eq_false hb]; rfl]
   exact rq_00 m a b w hm0 hm1 (by omega) (by omega) (by omega) (by omega)
def roundE (a b m : Int) : Int := if modeB m then (if termB a && termB b then (if b = 0 then 10 else 0) else 2) else 1
def roundV (a b m : Int) : Int := if roundE a b m = 0 then rnd m a b else 0
set_option maxHeartbeats 1600000 in
theorem round_any (a b m : Int) (w : World) : Calls Tryz.prog 11 #[.int .i64 a, .int .i64 b, .int .i64 m] w fun e w' => e = .returned (.tuple #[.int .i64 (roundV a b m), .int .i64 (roundE a b m)]) ∧ Below w.heap.size w w' := by
 unfold roundV roundE
 cases hm : modeB m
 ·rw [if_neg (by simp), if_neg (by simp)]
  have hB := Below.refl w.heap.size w
  go_enter Tryz.func11, Tryz.ntmps11
  go_wp2_with (first | (go_at_call 24; refine (isMode_any _ _).mono ?_; rintro e w' ⟨rfl, hb⟩; replace hB := below_more hB hb; clear hb) | (go_at_call 25; refine (isTerm_any _ _).mono ?_; rintro e w' ⟨rfl, rfl⟩) | (go_at_call 26; refine (rounded_any _ _ _ _ (by omega) (by omega) (by omega) (by omega) (by omega) (by omega) (by omega)).mono ?_; rintro e w' ⟨rfl, hb⟩; replace hB := below_more hB hb; clear hb))
  go_ret2
  exact ⟨rfl, hB⟩
 ·rw [if_pos rfl]
  have hm2 := modeB_is hm
  obtain ⟨hm3, hm4⟩ := hm2
  cases ha : termB a
  ·rw [if_neg (by simp), if_neg (by simp)]
   have hB := Below.refl w.heap.size w
   go_enter Tryz.func11, Tryz.ntmps11
   go_wp2_with (first | (go_at_call 24; refine (isMode_any _ _).mono ?_; rintro e w' ⟨rfl, hb⟩; replace hB := below_more hB hb; clear hb) | (go_at_call 25; refine (isTerm_any _ _).mono ?_; rintro e w' ⟨rfl, rfl⟩) | (go_at_call 26; refine (rounded_any _ _ _ _ (by omega) (by omega) (by omega) (by omega) (by omega) (by omega) (by omega)).mono ?_; rintro e w' ⟨rfl, hb⟩; replace hB := below_more hB hb; clear hb))
   go_ret2
   exact ⟨rfl, hB⟩
  ·cases hb : termB b
   ·rw [if_neg (by simp), if_neg (by simp)]
    have hB := Below.refl w.heap.size w
    go_enter Tryz.func11, Tryz.ntmps11
    go_wp2_with (first | (go_at_call 24; refine (isMode_any _ _).mono ?_; rintro e w' ⟨rfl, hb⟩; replace hB := below_more hB hb; clear hb) | (go_at_call 25; refine (isTerm_any _ _).mono ?_; rintro e w' ⟨rfl, rfl⟩) | (go_at_call 26; refine (rounded_any _ _ _ _ (by omega) (by omega) (by omega) (by omega) (by omega) (by omega) (by omega)).mono ?_; rintro e w' ⟨rfl, hb⟩; replace hB := below_more hB hb; clear hb))
    go_ret2
    exact ⟨rfl, hB⟩
   ·rw [Bool.and_self, if_pos rfl]
    obtain ⟨ha3, ha4⟩ := termB_is ha
    obtain ⟨hb3, hb4⟩ := termB_is hb
    by_cases h0 : b = 0
    ·subst h0
     rw [if_pos rfl, if_neg (by decide)]
     have hB := Below.refl w.heap.size w
     go_enter Tryz.func11, Tryz.ntmps11
     go_wp2_with (first | (go_at_call 24; refine (isMode_any _ _).mono ?_; rintro e w' ⟨rfl, hb⟩; replace hB := below_more hB hb; clear hb) | (go_at_call 25; refine (isTerm_any _ _).mono ?_; rintro e w' ⟨rfl, rfl⟩) | (go_at_call 26; refine (rounded_any _ _ _ _ (by omega) (by omega) (by omega) (by omega) (by omega) (by omega) (by omega)).mono ?_; rintro e w' ⟨rfl, hb⟩; replace hB := below_more hB hb; clear hb))
     go_ret2
     exact ⟨rfl, hB⟩
    ·rw [if_neg h0, if_pos rfl]
     have h1 : (b == 0) = false := by simpa using h0
     have hB := Below.refl w.heap.size w
     go_enter Tryz.func11, Tryz.ntmps11
     go_wp2_with (first | (go_at_call 24; refine (isMode_any _ _).mono ?_; rintro e w' ⟨rfl, hb⟩; replace hB := below_more hB hb; clear hb) | (go_at_call 25; refine (isTerm_any _ _).mono ?_; rintro e w' ⟨rfl, rfl⟩) | (go_at_call 26; refine (rounded_any _ _ _ _ (by omega) (by omega) (by omega) (by omega) (by omega) (by omega) (by omega)).mono ?_; rintro e w' ⟨rfl, hb⟩; replace hB := below_more hB hb; clear hb))
     go_ret2
     exact ⟨rfl, hB⟩
theorem rpower_at (x : Int) (h0 : 0 ≤ x) (h9 : x ≤ 9) (w : World) : Calls Tryz.prog 18 #[.int .i64 x] w fun e w' => e = .returned (.int .i64 (pw x.toNat)) ∧ w = w' := by
 obtain ⟨k, rfl⟩ : ∃ k : Nat, x = k := ⟨x.toNat, by omega⟩
 exact rpower_any k (by omega) w
theorem pw_add (j k : Nat) : pw (j + k) = pw j * pw k := by unfold pw; rw [Nat.pow_add]; simp
theorem mul_grow {y c M : Int} (hc : 1 ≤ c) (h1 : -M ≤ y * c) (h2 : y * c ≤ M) : -M ≤ y ∧ y ≤ M := by
 rcases Int.le_total 0 y with h | h
 ·have := Int.mul_le_mul_of_nonneg_left hc h
  rw [Int.mul_one] at this
  omega
 ·have := Int.mul_le_mul_of_nonpos_left h hc
  rw [Int.mul_one] at this
  omega
theorem scale_mono {n M : Int} {j k : Nat} (h : j ≤ k) (h1 : -M ≤ n * pw k) (h2 : n * pw k ≤ M) : -M ≤ n * pw j ∧ n * pw j ≤ M := by
 have e : pw k = pw j * pw (k - j) := by rw [← pw_add]; congr 1; omega
 rw [e, ← Int.mul_assoc] at h1 h2
 refine mul_grow ?_ h1 h2
 have : 0 < 10 ^ (k - j) := Nat.pow_pos (by omega)
 unfold pw; omega
def rangeB (x : Int) : Bool := decide (-1000000000000000 ≤ x) && decide (x ≤ 1000000000000000)
def rescE (n f t m : Int) : Int := if modeB m && scaleB t then (if validB n f then (if t < f then 0 else if rangeB (n * pw (t - f).toNat) then 0 else 2) else 2) else 1
def rescV (n f t m : Int) : Int := if rescE n f t m = 0 then (if t < f then rnd m n (pw (f - t).toNat) else n * pw (t - f).toNat) else 0
theorem rnd_one (m n : Int) (hm0 : 0 ≤ m) (hm1 : m ≤ 5) : rnd m n 1 = n := by
 have hc : m = 0 ∨ m = 1 ∨ m = 2 ∨ m = 3 ∨ m = 4 ∨ m = 5 := by omega
 have e : rqN m (negB n 1) ((n.natAbs : Int) / ((1 : Int).natAbs : Int)) ((n.natAbs : Int) % ((1 : Int).natAbs : Int)) ((1 : Int).natAbs : Int) = (n.natAbs : Int) := by
  rw [show ((1 : Int).natAbs : Int) = 1 from rfl, Int.ediv_one, Int.emod_one]
  rcases hc with rfl | rfl | rfl | rfl | rfl | rfl <;> simp [rqN, upN]
 unfold rnd
 rw [e]
 unfold sgn negB
 by_cases h : n < 0
 ·rw [decide_eq_true h, decide_eq_false (by decide)]; simp; omega
 ·rw [decide_eq_false h, decide_eq_false (by decide)]; simp; omega
theorem pw_zero : pw 0 = 1 := rfl
theorem dret_ii {j k : IntKind} {a b c d : Int} (h : a = b) (h2 : c = d) : Ending.returned (.tuple #[.int j a, .int k c]) = .returned (.tuple #[.int j b, .int k d]) := by rw [h, h2]
set_option maxHeartbeats 3200000 in
theorem rrescale_any (n f t m : Int) (w : World) : Calls Tryz.prog 10 #[.int .i64 n, .int .i64 f, .int .i64 t, .int .i64 m] w fun e w' => e = .returned (.tuple #[.int .i64 (rescV n f t m), .int .i64 (rescE n f t m)]) ∧ Below w.heap.size w w' := by
 unfold rescV rescE
 cases hm : modeB m
 ·rw [if_neg (by simp), if_neg (by simp)]
  have hB := Below.refl w.heap.size w
  go_enter Tryz.func10, Tryz.ntmps10
  go_wp2_with (first | (go_at_call 22; refine (known_any _ _).mono ?_; rintro e w' ⟨rfl, rfl⟩) | (go_at_call 7; refine (rvalid_any _ _ _).mono ?_; rintro e w' ⟨rfl, rfl⟩) | (go_at_call 23; refine (dcquo_any _ _ _ _ (by omega) (by omega) (by omega) (by omega) (by omega) (by omega) (by omega)).mono ?_; rintro e w' ⟨rfl, hb⟩; replace hB := below_more hB hb; clear hb))
  go_ret2
  exact ⟨rfl, hB⟩
 ·have hm2 := modeB_is hm
  obtain ⟨hm3, hm4⟩ := hm2
  rw [Bool.true_and]
  by_cases ht0 : t < 0
  ·rw [show scaleB t = false by simp [scaleB]; omega]
   rw [if_neg (by simp), if_neg (by simp)]
   have hB := Below.refl w.heap.size w
   go_enter Tryz.func10, Tryz.ntmps10
   go_wp2_with (first | (go_at_call 22; refine (known_any _ _).mono ?_; rintro e w' ⟨rfl, rfl⟩) | (go_at_call 7; refine (rvalid_any _ _ _).mono ?_; rintro e w' ⟨rfl, rfl⟩) | (go_at_call 23; refine (dcquo_any _ _ _ _ (by omega) (by omega) (by omega) (by omega) (by omega) (by omega) (by omega)).mono ?_; rintro e w' ⟨rfl, hb⟩; replace hB := below_more hB hb; clear hb))
   go_ret2
   exact ⟨rfl, hB⟩
  ·by_cases ht9 : 9 < t
   ·rw [show scaleB t = false by simp [scaleB]; omega]
    rw [if_neg (by simp), if_neg (by simp)]
    have ht1 : decide (t < 0) = false := decide_eq_false ht0
    clear ht0
    have hB := Below.refl w.heap.size w
    go_enter Tryz.func10, Tryz.ntmps10
    go_wp2_with (first | (go_at_call 22; refine (known_any _ _).mono ?_; rintro e w' ⟨rfl, rfl⟩) | (go_at_call 7; refine (rvalid_any _ _ _).mono ?_; rintro e w' ⟨rfl, rfl⟩) | (go_at_call 23; refine (dcquo_any _ _ _ _ (by omega) (by omega) (by omega) (by omega) (by omega) (by omega) (by omega)).mono ?_; rintro e w' ⟨rfl, hb⟩; replace hB := below_more hB hb; clear hb))
    go_ret2
    exact ⟨rfl, hB⟩
   have ht1 : decide (t < 0) = false := decide_eq_false ht0
   have ht2 : decide (9 < t) = false := decide_eq_false ht9
   rw [show scaleB t = true by simp [scaleB]; omega, if_pos rfl]
   cases hv : validB n f
   ·rw [if_neg (by simp), if_neg (by simp)]
    have hB := Below.refl w.heap.size w
    go_enter Tryz.func10, Tryz.ntmps10
    go_wp2_with (first | (go_at_call 22; refine (known_any _ _).mono ?_; rintro e w' ⟨rfl, rfl⟩) | (go_at_call 7; refine (rvalid_any _ _ _).mono ?_; rintro e w' ⟨rfl, rfl⟩) | (go_at_call 23; refine (dcquo_any _ _ _ _ (by omega) (by omega) (by omega) (by omega) (by omega) (by omega) (by omega)).mono ?_; rintro e w' ⟨rfl, hb⟩; replace hB := below_more hB hb; clear hb))
    go_ret2
    exact ⟨rfl, hB⟩
   ·rw [if_pos rfl]
    obtain ⟨⟨hn1, hn2⟩, hf0, hf9⟩ := validB_is hv
    by_cases hlt : t ≤ f
    ·have hV : (if t < f then rnd m n (pw (f - t).toNat) else n * pw (t - f).toNat) = rnd m n (pw (f - t).toNat) := by
      by_cases h : t < f
      ·rw [if_pos h]
      ·obtain rfl : t = f := by omega
       rw [if_neg h, Int.sub_self, show (0 : Int).toNat = 0 from rfl, pw_zero, Int.mul_one, rnd_one m n hm3 hm4]
     have hE : (if t < f then (0 : Int) else if rangeB (n * pw (t - f).toNat) = true then 0 else 2) = 0 := by
      by_cases h : t < f
      ·rw [if_pos h]
      ·obtain rfl : t = f := by omega
       rw [if_neg h, Int.sub_self, show (0 : Int).toNat = 0 from rfl, pw_zero, Int.mul_one, if_pos (by simp [rangeB]; omega)]
     rw [hE, if_pos rfl, hV]
     clear hV hE
     have hpp := pw_bd (show (f - t).toNat ≤ 9 by omega)
     have hp : ∀ w, Calls Tryz.prog 18 #[.int .i64 (f - t)] w fun e w' => e = .returned (.int .i64 (pw (f - t).toNat)) ∧ w = w' := fun w => rpower_at _ (by omega) (by omega) w
     obtain ⟨p, hpe⟩ : ∃ p, pw (f - t).toNat = p := ⟨_, rfl⟩
     rw [hpe] at hp hpp ⊢
     obtain ⟨hp1, hp2⟩ := hpp
     have HP := Lib.hid hp
     have HPE := Lib.hid hpe
     clear hp hpe
     have hp0 : p ≠ 0 := by omega
     have hB := Below.refl w.heap.size w
     go_enter Tryz.func10, Tryz.ntmps10
     go_wp2_with (first | (go_at_call 22; refine (known_any _ _).mono ?_; rintro e w' ⟨rfl, rfl⟩) | (go_at_call 7; refine (rvalid_any _ _ _).mono ?_; rintro e w' ⟨rfl, rfl⟩) | (go_at_call 18; refine (HP.out _).mono ?_; rintro e w' ⟨rfl, rfl⟩) | (go_at_call 23; refine (dcquo_any _ _ _ _ (by omega) (by omega) (by omega) (by omega) (by omega) (by omega) (by omega)).mono ?_; rintro e w' ⟨rfl, hb⟩; replace hB := below_more hB hb; clear hb))
     go_ret2
     exact ⟨rfl, hB⟩
    ·have hlf : ¬ t < f := by omega
     rw [if_neg hlf, if_neg hlf]
     obtain ⟨k, hk⟩ : ∃ k : Nat, t - f = k := ⟨(t - f).toNat, by omega⟩
     rw [hk, Int.toNat_natCast]
     have HK := Lib.hid hk
     clear hk
     have hle : decide (t ≤ f) = false := decide_eq_false hlt
     clear hlt hlf
     cases hr : rangeB (n * pw k)
     ·rw [if_neg (by simp), if_neg (by simp)]
      have hB := Below.refl w.heap.size w
      have HR := Lib.hid hr
      clear hr
      go_enter Tryz.func10, Tryz.ntmps10
      go_wp2_with (first | (go_at_call 22; refine (known_any _ _).mono ?_; rintro e w' ⟨rfl, rfl⟩) | (go_at_call 7; refine (rvalid_any _ _ _).mono ?_; rintro e w' ⟨rfl, rfl⟩))
      go_loop [0, 10] (fun x i => ∃ j : Nat, j ≤ k ∧ i = .int .i64 (f + j) ∧ ∃ X, x = .int .i64 X ∧ X = n * pw j ∧ -1000000000000000 ≤ X ∧ X ≤ 1000000000000000) (fun _ i => (t - intOf i).toNat)
      case atStart => exact ⟨0, Nat.zero_le _, by simp, n, rfl, by rw [pw_zero, Int.mul_one], hn1, hn2⟩
      case round =>
       obtain ⟨j, hj, rfl, X, rfl, hX, hX1, hX2⟩ := hrel
       have HX := Lib.hid hX
       clear hX
       by_cases hjk : j < k
       ·have hlt1 : f + (j : Int) < t := by have := HK.out; omega
        cases hv2 : validB (X * 10) t
        ·go_wp2_with (first | (go_at_call 22; refine (known_any _ _).mono ?_; rintro e w' ⟨rfl, rfl⟩) | (go_at_call 7; refine (rvalid_any _ _ _).mono ?_; rintro e w' ⟨rfl, rfl⟩))
         go_ret2
         exact ⟨rfl, hB⟩
        ·obtain ⟨⟨hy1, hy2⟩, -⟩ := validB_is hv2
         go_wp2_with (first | (go_at_call 22; refine (known_any _ _).mono ?_; rintro e w' ⟨rfl, rfl⟩) | (go_at_call 7; refine (rvalid_any _ _ _).mono ?_; rintro e w' ⟨rfl, rfl⟩))
         go_round
         case rel => exact ⟨j + 1, by omega, by simp; omega, X * 10, rfl, by rw [HX.out, pw_succ, Int.mul_assoc], hy1, hy2⟩
         case measure => simp [intOf]; omega
       ·exfalso
        obtain rfl : j = k := by omega
        have h1 := HR.out
        rw [← HX.out] at h1
        simp [rangeB] at h1
        omega
     ·have hr2 : -1000000000000000 ≤ n * pw k ∧ n * pw k ≤ 1000000000000000 := by simpa [rangeB] using hr
      rw [if_pos rfl, if_pos rfl]
      have hB := Below.refl w.heap.size w
      have HR := Lib.hid hr2
      clear hr hr2
      go_enter Tryz.func10, Tryz.ntmps10
      go_wp2_with (first | (go_at_call 22; refine (known_any _ _).mono ?_; rintro e w' ⟨rfl, rfl⟩) | (go_at_call 7; refine (rvalid_any _ _ _).mono ?_; rintro e w' ⟨rfl, rfl⟩))
      go_loop [0, 10] (fun x i => ∃ j : Nat, j ≤ k ∧ i = .int .i64 (f + j) ∧ ∃ X, x = .int .i64 X ∧ X = n * pw j ∧ -1000000000000000 ≤ X ∧ X ≤ 1000000000000000) (fun _ i => (t - intOf i).toNat)
      case atStart => exact ⟨0, Nat.zero_le _, by simp, n, rfl, by rw [pw_zero, Int.mul_one], hn1, hn2⟩
      case round =>
       obtain ⟨j, hj, rfl, X, rfl, hX, hX1, hX2⟩ := hrel
       by_cases hjk : j < k
       ·have hlt1 : f + (j : Int) < t := by have := HK.out; omega
        have hy := scale_mono (show j + 1 ≤ k by omega) HR.out.1 HR.out.2
        have hX3 : n * pw (j + 1) = X * 10 := by rw [hX, pw_succ, Int.mul_assoc]
        rw [hX3] at hy
        obtain ⟨hy1, hy2⟩ := hy
        have hv2 : validB (X * 10) t = true := by simp [validB, scaleB]; omega
        have HX := Lib.hid hX3
        clear hX hX3
        go_wp2_with (first | (go_at_call 22; refine (known_any _ _).mono ?_; rintro e w' ⟨rfl, rfl⟩) | (go_at_call 7; refine (rvalid_any _ _ _).mono ?_; rintro e w' ⟨rfl, rfl⟩))
        go_round
        case rel => exact ⟨j + 1, by omega, by simp; omega, X * 10, rfl, HX.out.symm, hy1, hy2⟩
        case measure => simp [intOf]; omega
       ·obtain rfl : j = k := by omega
        have HX := Lib.hid hX
        clear hX
        have hlt1 : decide (f + (j : Int) < t) = false := decide_eq_false (by have := HK.out; omega)
        go_wp2_with fail
        go_ret2
        exact ⟨dret_ii HX.out rfl, hB⟩
theorem dig1234 : Lib.itoa (-1234) = [45, 49, 50, 51, 52] := by
 have h : Lib.decDigits 1234 = [49, 50, 51, 52] := by
  rw [Lib.decDigits, dif_neg (by decide), Lib.decDigits, dif_neg (by decide), Lib.decDigits, dif_neg (by decide), Lib.decDigits, dif_pos (by decide)]
  rfl
 show (if (-1234 : Int) < 0 then 45 :: Lib.decDigits 1234 else _) = _
 rw [if_pos (by decide), h]
theorem text1234 (w : World) (ht : DTab w.heap.size w) : Calls Tryz.prog 5 #[.int .i64 (-1234), .int .i64 2] w fun e w' => e = .returned (.string ⟨#[45, 49, 50, 46, 51, 52]⟩) ∧ Below w.heap.size w w' :=
 dtext_100 (-1234) [45, 49, 50, 51, 52] [49, 50, 51, 52] 2 w ht (by decide) dig1234 (by decide) (by decide) (by decide) (by decide) (by decide)
theorem round52 (w : World) : Calls Tryz.prog 11 #[.int .i64 (-5), .int .i64 2, .int .i64 0] w fun e w' => e = .returned (.tuple #[.int .i64 (-3), .int .i64 0]) ∧ Below w.heap.size w w' := by
 have h := round_any (-5) 2 0 w
 rw [show roundV (-5) 2 0 = -3 by decide, show roundE (-5) 2 0 = 0 by decide] at h
 exact h
set_option maxHeartbeats 800000 in
theorem dawake_any (w : World) (ht : DTab w.heap.size w) : Calls Tryz.prog 4 #[] w fun e w' => e = .returned (.bool true) ∧ Below w.heap.size w w' := by
 have HT := Lib.hid ht
 clear ht
 have hB := Below.refl w.heap.size w
 go_enter Tryz.func4, Tryz.ntmps4
 go_wp2_with (first | (go_at_call 11; refine (round52 _).mono ?_; rintro e w' ⟨rfl, hb⟩; replace hB := below_more hB hb; clear hb) | (go_at_call 5; refine (text1234 _ (DTab.up HT.out hB)).mono ?_; rintro e w' ⟨rfl, hb⟩; replace hB := below_more hB hb; clear hb))
 go_ret
 exact ⟨rfl, hB⟩
open Go.Lib (decDigits)
theorem ofNat_dig {d : Nat} (h : d < 10) : isDig (UInt8.ofNat (48 + d)) = true ∧ (UInt8.ofNat (48 + d)).toNat - 48 = d := by
 have e : (UInt8.ofNat (48 + d)).toNat = 48 + d := by simp; omega
 rw [isDig_iff, e]
 omega
theorem dec_facts (n : Nat) : (∀ c ∈ decDigits n, isDig c = true) ∧ numOf (decDigits n) = n := by
 induction n using Nat.strongRecOn with
 | _ n ih =>
  rw [decDigits]
  split
  ·rename_i h
   have := ofNat_dig h
   refine ⟨by simpa using this.1, ?_⟩
   show 10 * 0 + ((UInt8.ofNat (48 + n)).toNat - 48) = n
   rw [this.2]; omega
  ·rename_i h
   have i := ih (n / 10) (by omega)
   have d := ofNat_dig (d := n % 10) (by omega)
   refine ⟨fun c hc => ?_, ?_⟩
   ·rcases List.mem_append.1 hc with h1 | h1
    ·exact i.1 c h1
    ·have : c = UInt8.ofNat (48 + n % 10) := by simpa using h1
     rw [this]; exact d.1
   ·rw [numOf_snoc, i.2, d.2]; omega
theorem dec_nil (n : Nat) : decDigits n ≠ [] := by
 rw [decDigits]; split <;> simp
theorem pad_split (s : Nat) : ∀ a : Nat, List.replicate (s + 1 - (decDigits a).length) 48 ++ decDigits a = decDigits (a / 10 ^ s) ++ padk s (a % 10 ^ s) := by
 induction s with
 | zero =>
  intro a
  have h : 0 < (decDigits a).length := List.length_pos_iff.2 (dec_nil a)
  rw [show 0 + 1 - (decDigits a).length = 0 by omega]
  simp [padk]
 | succ s ih =>
  intro a
  have e1 : a % 10 ^ (s + 1) / 10 = (a / 10) % 10 ^ s := by rw [Nat.pow_succ, Nat.mul_comm, Nat.mod_mul_right_div_self]
  have e2 : a % 10 ^ (s + 1) % 10 = a % 10 := by rw [Nat.pow_succ, Nat.mul_comm, Nat.mod_mul_right_mod]
  have e3 : a / 10 ^ (s + 1) = (a / 10) / 10 ^ s := by rw [Nat.div_div_eq_div_mul, Nat.pow_succ, Nat.mul_comm]
  rw [padk, e1, e2, e3, ← List.append_assoc, ← ih (a / 10)]
  by_cases h : a < 10
  ·have e4 : a / 10 = 0 := by omega
   have e5 : a % 10 = a := by omega
   rw [e4, e5, dec_small (d := 0) (by omega), dec_small h, List.length_singleton, List.length_singleton, show s + 1 + 1 - 1 = s + 1 by omega, show s + 1 - 1 = s by omega, List.replicate_succ']
   rfl
  ·have e6 : decDigits a = decDigits (a / 10) ++ [UInt8.ofNat (48 + a % 10)] := by rw [decDigits, dif_neg h]
   rw [e6, List.length_append, List.length_singleton, show s + 1 + 1 - ((decDigits (a / 10)).length + 1) = s + 1 - (decDigits (a / 10)).length by omega, List.append_assoc]
def bareDc (a s : Nat) : List UInt8 := if s = 0 then decDigits a else decDigits (a / 10 ^ s) ++ 46 :: padk s (a % 10 ^ s)
theorem bare_is (a s : Nat) : bareT (padD (decDigits a) s) s = bareDc a s := by
 unfold bareT bareDc padD
 rw [pad_split]
 by_cases h : s = 0
 ·subst h; simp [padk]
 ·rw [if_neg h, if_neg h]
  have hl := padk_length s (a % 10 ^ s)
  rw [List.length_append, hl, Nat.add_sub_cancel, List.take_left, List.drop_left]
def txDc (n : Int) (s : Nat) : List UInt8 := signT (decide (n < 0)) (bareDc n.natAbs s)
def txDL (n sc : Int) : List UInt8 := if validB n sc = true then txDc n sc.toNat else []
theorem dec_no45 (a : Nat) : ∀ d ∈ decDigits a, d ≠ 45 := by
 rintro d hd rfl
 exact absurd ((dec_facts a).1 45 hd) (by decide)
set_option maxHeartbeats 800000 in
theorem dtextg_any (n sc : Int) (w : World) (ht : DTab w.heap.size w) : Calls Tryz.prog 5 #[.int .i64 n, .int .i64 sc] w fun e w' => e = .returned (.string ⟨(txDL n sc).toArray⟩) ∧ Below w.heap.size w w' := by
 unfold txDL
 cases hv : validB n sc
 ·have hV := fun w => valid_any n sc w
  rw [hv] at hV
  have HV := Lib.hid hV
  clear hV ht hv
  go_enter Tryz.func5, Tryz.ntmps5
  go_wp2_with (go_at_call 6; refine (HV.out _).mono ?_; rintro e w' ⟨rfl, rfl⟩)
  go_ret
  exact ⟨rfl, Below.refl _ _⟩
 ·rw [if_pos rfl]
  obtain ⟨⟨n1, n2⟩, s1, s2⟩ := validB_is hv
  obtain ⟨s, rfl⟩ : ∃ s : Nat, sc = (s : Int) := ⟨sc.toNat, by omega⟩
  rw [Int.toNat_natCast]
  have hl : (decDigits n.natAbs).length ≤ 20 := Nat.le_trans (dec_len 15 n.natAbs (by omega)) (by omega)
  have hp : 0 < (decDigits n.natAbs).length := List.length_pos_iff.2 (dec_nil _)
  unfold txDc
  rw [← bare_is]
  by_cases hn : n < 0
  ·rw [decide_eq_true hn]
   have hi : Lib.itoa n = 45 :: decDigits n.natAbs := by unfold Lib.itoa; rw [if_pos hn]
   have t := trim_minus (decDigits n.natAbs)
   by_cases h0 : s = 0
   ·subst h0
    exact dtext_101 n _ _ w ht hv hi t.1 t.2 hl hp
   ·by_cases hm : s < (decDigits n.natAbs).length
    ·exact dtext_100 n _ _ s w ht hv hi t.1 t.2 hl hm (by omega)
    ·exact dtext_110 n _ _ s w ht hv hi t.1 t.2 hl (by omega) (by omega)
  ·rw [decide_eq_false hn]
   have hi : Lib.itoa n = decDigits n.natAbs := by unfold Lib.itoa; rw [if_neg hn, show n.toNat = n.natAbs by omega]
   have t := trim_digits (dec_no45 n.natAbs)
   by_cases h0 : s = 0
   ·subst h0
    exact dtext_001 n _ _ w ht hv hi t.1 t.2 hl hp
   ·by_cases hm : s < (decDigits n.natAbs).length
    ·exact dtext_000 n _ _ s w ht hv hi t.1 t.2 hl hm (by omega)
    ·exact dtext_010 n _ _ s w ht hv hi t.1 t.2 hl (by omega) (by omega)
set_option maxRecDepth 20000 in
theorem rdig3_one (d : Nat) (w : World) (hd : d < 10) : Calls Tryz.prog 16 #[.int .i64 (d : Int)] w fun e w' => e = .returned (.string ⟨(decDigits d).toArray⟩) ∧ Below w.heap.size w w' := by
 rw [dec_small hd]
 obtain ⟨b, hb⟩ : ∃ b, UInt8.ofNat (48 + d) = b := ⟨_, rfl⟩
 have hbt : ((48 : Int) + (d : Int)) = (b.toNat : Int) := by rw [← hb]; simp; omega
 rw [hb]
 have h10 : decide (10 ≤ (d : Int)) = false := decide_eq_false (by omega)
 have hB : Below w.heap.size w (w.alloc (.cells #[.int .u8 (b.toNat : Int)] 5)) := (Below.refl _ _).alloc (Nat.le_refl _) _
 clear hb
 go_enter Tryz.func16, Tryz.ntmps16
 go_wp2_with (refine wpList_byte_str rfl 50 9 (.tmp 15) rfl 5 Tryz.underlying50 Tryz.underlying5 Tryz.underlying9 _ b rfl 1 rfl ?_)
 go_ret
 exact ⟨rfl, hB⟩
set_option maxHeartbeats 800000 in
set_option maxRecDepth 20000 in
theorem rdig3_any (k : Nat) : ∀ (n : Nat) (w : World), n < 10 ^ (k + 1) → k ≤ 17 → Calls Tryz.prog 16 #[.int .i64 (n : Int)] w fun e w' => e = .returned (.string ⟨(decDigits n).toArray⟩) ∧ Below w.heap.size w w' := by
 induction k with
 | zero => intro n w hn _; exact rdig3_one n w (by omega)
 | succ k ih =>
  intro n w hn hk
  by_cases h10 : n < 10
  ·exact rdig3_one n w h10
  ·rw [Nat.pow_succ] at hn
   have hI1 := fun w => ih (n / 10) w (by omega) (by omega)
   have hI2 := fun w => rdig3_one (n % 10) w (by omega)
   have hl := dec_len k (n / 10) (by omega)
   have hle : 10 ^ (k + 1) ≤ 10 ^ 17 := Nat.pow_le_pow_right (by omega) (by omega)
   rw [decDigits, dif_neg h10]
   have hone : decDigits (n % 10) = [UInt8.ofNat (48 + n % 10)] := dec_small (by omega)
   rw [hone] at hI2
   have hw1 : (n : Int) / 10 = ((n / 10 : Nat) : Int) := by omega
   have hw2 : (n : Int) % 10 = ((n % 10 : Nat) : Int) := by omega
   have hn9 : n ≤ 9000000000000000000 := by omega
   have ho1 : n / 10 ≤ 900000000000000000 := by omega
   have ho2 : n % 10 ≤ 9 := by omega
   have h10' : (10 : Int) ≤ (n : Int) := by omega
   generalize UInt8.ofNat (48 + n % 10) = b at *
   generalize decDigits (n / 10) = D at *
   generalize n / 10 = x at *
   generalize n % 10 = y at *
   have hov : ¬ 9223372036854775807 < D.length + 1 := by omega
   have HI1 := Lib.hid hI1
   have HI2 := Lib.hid hI2
   have hB := Below.refl w.heap.size w
   clear hI1 hI2 ih hone hn hle h10
   go_enter Tryz.func16, Tryz.ntmps16
   go_wp2_with (go_at_call 16; first | ((with_reducible refine (HI1.out _).mono ?_); rintro e w' ⟨rfl, hb⟩; replace hB := below_more hB hb; clear hb) | ((with_reducible refine (HI2.out _).mono ?_); rintro e w' ⟨rfl, hb⟩; replace hB := below_more hB hb; clear hb))
   go_ret
   exact ⟨dret_str (bytes_eq (by simp [ByteArray.data_append])), hB⟩
set_option maxRecDepth 20000 in
set_option maxHeartbeats 800000 in
theorem drtext_s (n : Int) (neg : Bool) (D T : List UInt8) (s c q r : Nat) (p : Int) (w : World) (hn : decide (n < 0) = neg) (hc : n.natAbs = c) (hv : validB n (s : Int) = true) (hs0 : decide (0 < s) = true) (hs9 : s ≤ 9) (hp : pw s = p) (hp1 : 1 ≤ p) (hp2 : p ≤ 1000000000) (hc1 : c ≤ 1000000000000000) (hw1 : (c : Int) / p = (q : Int)) (hw2 : (c : Int) % p = (r : Int)) (hq : q ≤ 1000000000000000) (hr : r ≤ 1000000000)
  (hI1 : ∀ w, Calls Tryz.prog 16 #[.int .i64 (q : Int)] w fun e w' => e = .returned (.string ⟨D.toArray⟩) ∧ Below w.heap.size w w')
  (hI2 : ∀ w, Calls Tryz.prog 16 #[.int .i64 (p + (r : Int))] w fun e w' => e = .returned (.string ⟨(49 :: T).toArray⟩) ∧ Below w.heap.size w w') (hl : D.length ≤ 40) (hlt : T.length ≤ 40) :
  Calls Tryz.prog 8 #[.int .i64 n, .int .i64 (s : Int)] w fun e w' => e = .returned (.string ⟨(signT neg (D ++ 46 :: T)).toArray⟩) ∧ Below w.heap.size w w' := by
 obtain ⟨⟨n1, n2⟩, _, _⟩ := validB_is hv
 have hV := fun w => rvalid_any n (s : Int) w
 rw [hv] at hV
 have hS := fun w => size_any n w (by omega) (by omega)
 rw [hc] at hS
 have hP := fun w => rpower_any s hs9 w
 rw [hp] at hP
 have hB := Below.refl w.heap.size w
 have hpz : (p == 0) = false := by simp; omega
 have hp0 : p ≠ 0 := by omega
 have HV := Lib.hid hV
 have HS := Lib.hid hS
 have HP := Lib.hid hP
 have HI1 := Lib.hid hI1
 have HI2 := Lib.hid hI2
 clear hV hS hP hI1 hI2 hv hc hp
 have hov1 : ¬ 9223372036854775807 < D.length + (1 + T.length) := by omega
 have hov2 : ¬ 9223372036854775807 < 1 + T.length := by omega
 have hov3 : ¬ 9223372036854775807 < 1 + (D.length + (1 + T.length)) := by omega
 cases neg
 ·go_enter Tryz.func8, Tryz.ntmps8
  go_wp2_with (first | (go_at_call 7; refine (HV.out _).mono ?_; rintro e w' ⟨rfl, rfl⟩) | (go_at_call 17; refine (HS.out _).mono ?_; rintro e w' ⟨rfl, rfl⟩) | (go_at_call 18; refine (HP.out _).mono ?_; rintro e w' ⟨rfl, rfl⟩) | (go_at_call 16; first | ((with_reducible refine (HI1.out _).mono ?_); rintro e w' ⟨rfl, hb⟩; replace hB := below_more hB hb; clear hb) | ((with_reducible refine (HI2.out _).mono ?_); rintro e w' ⟨rfl, hb⟩; replace hB := below_more hB hb; clear hb)))
  go_ret
  exact ⟨dret_str (bytes_eq (by simp [ByteArray.data_append, signT])), hB⟩
 ·go_enter Tryz.func8, Tryz.ntmps8
  go_wp2_with (first | (go_at_call 7; refine (HV.out _).mono ?_; rintro e w' ⟨rfl, rfl⟩) | (go_at_call 17; refine (HS.out _).mono ?_; rintro e w' ⟨rfl, rfl⟩) | (go_at_call 18; refine (HP.out _).mono ?_; rintro e w' ⟨rfl, rfl⟩) | (go_at_call 16; first | ((with_reducible refine (HI1.out _).mono ?_); rintro e w' ⟨rfl, hb⟩; replace hB := below_more hB hb; clear hb) | ((with_reducible refine (HI2.out _).mono ?_); rintro e w' ⟨rfl, hb⟩; replace hB := below_more hB hb; clear hb)))
  go_ret
  exact ⟨dret_str (bytes_eq (by simp [ByteArray.data_append, signT])), hB⟩
set_option maxRecDepth 20000 in
set_option maxHeartbeats 800000 in
theorem drtext_0 (n : Int) (neg : Bool) (D : List UInt8) (c : Nat) (w : World) (hn : decide (n < 0) = neg) (hc : n.natAbs = c) (hv : validB n 0 = true) (hc1 : c ≤ 1000000000000000)
  (hI1 : ∀ w, Calls Tryz.prog 16 #[.int .i64 (c : Int)] w fun e w' => e = .returned (.string ⟨D.toArray⟩) ∧ Below w.heap.size w w') (hl : D.length ≤ 40) :
  Calls Tryz.prog 8 #[.int .i64 n, .int .i64 0] w fun e w' => e = .returned (.string ⟨(signT neg D).toArray⟩) ∧ Below w.heap.size w w' := by
 obtain ⟨⟨n1, n2⟩, _, _⟩ := validB_is hv
 have hV := fun w => rvalid_any n 0 w
 rw [hv] at hV
 have hS := fun w => size_any n w (by omega) (by omega)
 rw [hc] at hS
 have hP := fun w => rpower_any 0 (by omega) w
 rw [show pw 0 = 1 from rfl] at hP
 have hB := Below.refl w.heap.size w
 have HV := Lib.hid hV
 have HS := Lib.hid hS
 have HP := Lib.hid hP
 have HI1 := Lib.hid hI1
 clear hV hS hP hI1 hv hc
 have hw1 : (c : Int) / 1 = (c : Int) := by omega
 have hov1 : ¬ 9223372036854775807 < 1 + D.length := by omega
 cases neg
 ·go_enter Tryz.func8, Tryz.ntmps8
  go_wp2_with (first | (go_at_call 7; refine (HV.out _).mono ?_; rintro e w' ⟨rfl, rfl⟩) | (go_at_call 17; refine (HS.out _).mono ?_; rintro e w' ⟨rfl, rfl⟩) | (go_at_call 18; refine (HP.out _).mono ?_; rintro e w' ⟨rfl, rfl⟩) | (go_at_call 16; ((with_reducible refine (HI1.out _).mono ?_); rintro e w' ⟨rfl, hb⟩; replace hB := below_more hB hb; clear hb)))
  go_ret
  exact ⟨dret_str (bytes_eq (by simp [ByteArray.data_append, signT])), hB⟩
 ·go_enter Tryz.func8, Tryz.ntmps8
  go_wp2_with (first | (go_at_call 7; refine (HV.out _).mono ?_; rintro e w' ⟨rfl, rfl⟩) | (go_at_call 17; refine (HS.out _).mono ?_; rintro e w' ⟨rfl, rfl⟩) | (go_at_call 18; refine (HP.out _).mono ?_; rintro e w' ⟨rfl, rfl⟩) | (go_at_call 16; ((with_reducible refine (HI1.out _).mono ?_); rintro e w' ⟨rfl, hb⟩; replace hB := below_more hB hb; clear hb)))
  go_ret
  exact ⟨dret_str (bytes_eq (by simp [ByteArray.data_append, signT])), hB⟩
theorem drtext_any (n sc : Int) (w : World) : Calls Tryz.prog 8 #[.int .i64 n, .int .i64 sc] w fun e w' => e = .returned (.string ⟨(txDL n sc).toArray⟩) ∧ Below w.heap.size w w' := by
 unfold txDL
 cases hv : validB n sc
 ·have hV := fun w => rvalid_any n sc w
  rw [hv] at hV
  have HV := Lib.hid hV
  clear hV hv
  go_enter Tryz.func8, Tryz.ntmps8
  go_wp2_with (go_at_call 7; refine (HV.out _).mono ?_; rintro e w' ⟨rfl, rfl⟩)
  go_ret
  exact ⟨rfl, Below.refl _ _⟩
 ·rw [if_pos rfl]
  obtain ⟨⟨n1, n2⟩, s1, s2⟩ := validB_is hv
  obtain ⟨s, rfl⟩ : ∃ s : Nat, sc = (s : Int) := ⟨sc.toNat, by omega⟩
  rw [Int.toNat_natCast]
  unfold txDc bareDc
  have hl := fun a (h : a < 10 ^ (15 + 1)) => dec_len 15 a h
  by_cases h0 : s = 0
  ·subst h0
   rw [if_pos rfl]
   exact drtext_0 n _ _ n.natAbs w rfl rfl hv (by omega) (fun w => rdig3_any 15 n.natAbs w (by omega) (by omega)) (Nat.le_trans (hl _ (by omega)) (by omega))
  ·rw [if_neg h0]
   have hpp := pw_bd (show s ≤ 9 by omega)
   have hp10 : pw s = ((10 ^ s : Nat) : Int) := rfl
   have hq := Nat.div_le_self n.natAbs (10 ^ s)
   have hr : n.natAbs % 10 ^ s < 10 ^ s := Nat.mod_lt _ (Nat.pow_pos (by omega))
   have hd := dec_pad s 1 (n.natAbs % 10 ^ s) (by omega) hr
   rw [Nat.one_mul, dec_small (d := 1) (by omega)] at hd
   have hP9 : 10 ^ s ≤ 1000000000 := by omega
   refine drtext_s n _ _ _ s n.natAbs (n.natAbs / 10 ^ s) (n.natAbs % 10 ^ s) (pw s) w rfl rfl hv (decide_eq_true (by omega)) (by omega) rfl hpp.1 hpp.2 (by omega) (by rw [hp10]; exact (Int.natCast_ediv _ _).symm) (by rw [hp10]; exact (Int.natCast_emod _ _).symm) (by omega) (by omega) (fun w => rdig3_any 15 _ w (by omega) (by omega)) ?_ (Nat.le_trans (hl _ (by omega)) (by omega)) (by rw [padk_length]; omega)
   intro w
   have h := rdig3_any 15 (10 ^ s + n.natAbs % 10 ^ s) w (by omega) (by omega)
   rw [hd, Int.natCast_add] at h
   exact h
theorem nm_zeros (j : Nat) : ∀ x : Nat, (List.replicate j (48 : UInt8)).foldl (fun n c => 10 * n + (c.toNat - 48)) x = x * 10 ^ j := by
 induction j with
 | zero => intro x; simp
 | succ j ih =>
  intro x
  rw [List.replicate_succ, List.foldl_cons, ih, show 10 * x + ((48 : UInt8).toNat - 48) = 10 * x by simp, Nat.pow_succ, Nat.mul_comm 10 x, Nat.mul_assoc, Nat.mul_comm 10]
theorem nm_more (A : List UInt8) (j : Nat) : numOf (A ++ List.replicate j 48) = numOf A * 10 ^ j := by
 unfold numOf
 rw [List.foldl_append, nm_zeros]
theorem nm_front (A : List UInt8) (j : Nat) : numOf (List.replicate j 48 ++ A) = numOf A := by
 unfold numOf
 rw [List.foldl_append, nm_zeros, Nat.zero_mul]
theorem padk_dig (k : Nat) : ∀ r, ∀ c ∈ padk k r, isDig c = true := by
 induction k with
 | zero => intro r c hc; simp [padk] at hc
 | succ k ih =>
  intro r c hc
  rw [padk, List.mem_append, List.mem_singleton] at hc
  rcases hc with h | h
  ·exact ih _ c h
  ·subst h
   rw [isDig_iff]
   have : r % 10 < 10 := Nat.mod_lt _ (by omega)
   rw [UInt8.toNat_ofNat']
   omega
theorem nm_parts (a s : Nat) : numOf (decDigits (a / 10 ^ s) ++ padk s (a % 10 ^ s)) = a := by
 rw [← pad_split, nm_front]
 exact (dec_facts a).2
theorem lead_dec (q : Nat) : lead0 (decDigits q) = false := by
 unfold lead0
 by_cases h : q < 10
 ·rw [dec_small h]; rfl
 ·have := (dec_head q (by omega)).1
  rw [Bool.and_eq_false_iff]
  right
  simpa using this
theorem allZ_num {l : List UInt8} : allZ l = true → numOf l = 0 := by
 intro h
 have e : l = List.replicate l.length 48 := by
  rw [List.eq_replicate_iff]
  unfold allZ at h
  rw [List.all_eq_true] at h
  exact ⟨rfl, fun b hb => by have := h b hb; simpa using this⟩
 rw [e]
 have := nm_more [] l.length
 rw [List.nil_append] at this
 rw [this]
 simp [numOf]
theorem bare_okD (a s : Nat) : okD (bareDc a s) = true ∧ numOf (cutW (bareDc a s) ++ cutR (bareDc a s)) = a ∧ (cutR (bareDc a s)).length = s ∧ (a ≠ 0 → hasNZ (bareDc a s) = true) ∧ (∀ d ∈ bareDc a s, d ≠ 45) := by
 unfold bareDc
 by_cases h0 : s = 0
 ·subst h0
  rw [if_pos rfl]
  have hd := (dec_facts a).1
  obtain ⟨e1, e2, e3⟩ := okD_all hd
  refine ⟨by rw [e1, dgs_mk (dec_nil a) hd, lead_dec]; rfl, by rw [e2, e3, List.append_nil]; exact (dec_facts a).2, by rw [e3]; rfl, ?_, dec_no45 a⟩
  intro ha
  rw [hasNZ_all hd]
  cases h : allZ (decDigits a)
  ·rfl
  ·have := allZ_num h
   rw [(dec_facts a).2] at this
   exact absurd this ha
 ·rw [if_neg h0]
  have hd := (dec_facts (a / 10 ^ s)).1
  have hr := padk_dig s (a % 10 ^ s)
  have hrl := padk_length s (a % 10 ^ s)
  obtain ⟨e1, e2, e3⟩ := okD_dot (R := padk s (a % 10 ^ s)) hd
  refine ⟨by rw [e1, dgs_mk (dec_nil _) hd, dgs_mk (fun h => by rw [h] at hrl; simp at hrl; omega) hr, lead_dec]; rfl, by rw [e2, e3]; exact nm_parts a s, by rw [e3]; exact hrl, ?_, ?_⟩
  ·intro ha
   rw [hasNZ_dot hd hr]
   cases h : allZ (decDigits (a / 10 ^ s) ++ padk s (a % 10 ^ s))
   ·rfl
   ·have := allZ_num h
    rw [nm_parts] at this
    exact absurd this ha
  ·intro d h
   rw [List.mem_append, List.mem_cons] at h
   rcases h with h | h | h
   ·exact dec_no45 _ d h
   ·subst h; decide
   ·rintro rfl
    exact absurd (hr 45 h) (by decide)
theorem tx_parts (n : Int) (s : Nat) : ngL (txDc n s) = decide (n < 0) ∧ unL (txDc n s) = bareDc n.natAbs s := by
 unfold ngL unL txDc signT
 have hb := (bare_okD n.natAbs s).2.2.2.2
 cases h : decide (n < 0)
 ·have := trim_digits hb
  exact ⟨this.2, this.1⟩
 ·have := trim_minus (bareDc n.natAbs s)
  exact ⟨this.2, this.1⟩
theorem tx_form (n : Int) (s : Nat) : dform (txDc n s) = true := by
 obtain ⟨h1, h2⟩ := tx_parts n s
 obtain ⟨b1, _, _, b4, _⟩ := bare_okD n.natAbs s
 unfold dform
 rw [h1, h2, b1]
 by_cases hn : n < 0
 ·rw [b4 (by omega), Bool.or_true]; rfl
 ·rw [decide_eq_false hn]; rfl
theorem tx_num (n : Int) (s k : Nat) : sgZ (ngL (txDc n s)) (dcN (txDc n s) k) = n * pw (k - s) ∧ (cutR (unL (txDc n s))).length = s := by
 obtain ⟨h1, h2⟩ := tx_parts n s
 obtain ⟨_, b2, b3, _, _⟩ := bare_okD n.natAbs s
 unfold dcN
 rw [h1, h2, b3, nm_more, b2]
 refine ⟨?_, rfl⟩
 unfold sgZ pw
 by_cases hn : n < 0
 ·rw [decide_eq_true hn, if_pos rfl, Int.natCast_mul, ← Int.neg_mul]
  congr 1
  omega
 ·rw [decide_eq_false hn, if_neg (by simp), Int.natCast_mul]
  congr 1
  omega
theorem tx_back (n : Int) (s k : Nat) (hv : validB n s = true) (hk : s ≤ k) (hk9 : k ≤ 9) : dcpE (txDc n s) k = rescE n s k 2 ∧ dcpV (txDc n s) k = rescV n s k 2 := by
 obtain ⟨t1, t2⟩ := tx_num n s k
 have hsc : scaleB (k : Int) = true := by unfold scaleB; simp; omega
 have hlt : ¬ ((k : Int) < (s : Int)) := by omega
 have hvk : validB (n * pw (k - s)) k = rangeB (n * pw (k - s)) := by unfold validB rangeB; rw [hsc, Bool.and_true]
 have hE : rescE n s k 2 = if rangeB (n * pw (k - s)) then 0 else 2 := by
  unfold rescE
  rw [show modeB 2 = true by decide, hsc, hv, if_pos (by simp), if_pos rfl, if_neg hlt, show ((k : Int) - (s : Int)).toNat = k - s by omega]
 have hV : rescV n s k 2 = if rangeB (n * pw (k - s)) then n * pw (k - s) else 0 := by
  unfold rescV
  rw [hE, if_neg hlt, show ((k : Int) - (s : Int)).toNat = k - s by omega]
  cases rangeB (n * pw (k - s)) <;> rfl
 rw [hE, hV]
 have hks : ¬ k < s := by omega
 unfold dcpE dcpV
 rw [t2, t1, hvk]
 exact ⟨by rw [tx_form n s, if_pos rfl, if_neg hks], by rw [tx_form n s, if_pos rfl, if_neg hks]⟩
theorem tx_same (n : Int) (s : Nat) (hv : validB n s = true) : dcpE (txDc n s) s = 0 ∧ dcpV (txDc n s) s = n := by
 obtain ⟨t1, t2⟩ := tx_num n s s
 rw [Nat.sub_self, pw_zero, Int.mul_one] at t1
 have hks : ¬ s < s := by omega
 unfold dcpE dcpV
 rw [t2, t1, hv]
 exact ⟨by rw [tx_form n s, if_pos rfl, if_neg hks, if_pos rfl], by rw [tx_form n s, if_pos rfl, if_neg hks, if_pos rfl]⟩
theorem tx_len (n : Int) (s : Nat) (hv : validB n s = true) : (txDc n s).length ≤ 40 := by
 obtain ⟨⟨n1, n2⟩, s1, s2⟩ := validB_is hv
 have h1 := dec_len 15 n.natAbs (by omega)
 have h2 := Nat.div_le_self n.natAbs (10 ^ s)
 have h3 := dec_len 15 (n.natAbs / 10 ^ s) (by omega)
 have h4 := padk_length s (n.natAbs % 10 ^ s)
 have hb : (bareDc n.natAbs s).length ≤ 39 := by
  unfold bareDc
  split
  ·omega
  ·rw [List.length_append, List.length_cons, h4]; omega
 unfold txDc signT
 split
 ·rw [List.length_cons]; omega
 ·omega
set_option maxRecDepth 20000 in
set_option maxHeartbeats 800000 in
theorem law_dtext_no (n sc m : Int) (w : World) (hm : MaxC w) (ht : DTab w.heap.size w) (hv : ErrC w) (hx : validB n sc = false) : Calls Tryz.prog 3 #[.int .i64 n, .int .i64 sc, .int .u8 m] w fun e w' => e = .returned (.bool true) ∧ Below w.heap.size w w' := by
 have hT := fun w a => dtextg_any n sc w a
 have hU := fun w => drtext_any n sc w
 have hV := fun w => valid_any n sc w
 have hR := fun w => rvalid_any n sc w
 rw [hx] at hV hR
 have e : txDL n sc = [] := by unfold txDL; rw [hx]; rfl
 rw [e] at hT hU
 have hB := Below.refl w.heap.size w
 have HTB := Lib.hid ht
 have HT := Lib.hid hT
 have HU := Lib.hid hU
 have HV := Lib.hid hV
 have HR := Lib.hid hR
 clear hT hU hV hR hm ht hv hx e
 go_enter Tryz.func3, Tryz.ntmps3
 go_wp2_with (first | (go_at_call 4; refine (dawake_any _ (DTab.up HTB.out hB)).mono ?_; rintro e w' ⟨rfl, hb⟩; replace hB := below_more hB hb; clear hb) | (go_at_call 5; refine (HT.out _ (DTab.up HTB.out hB)).mono ?_; rintro e w' ⟨rfl, hb⟩; replace hB := below_more hB hb; clear hb) | (go_at_call 8; refine (HU.out _).mono ?_; rintro e w' ⟨rfl, hb⟩; replace hB := below_more hB hb; clear hb) | (go_at_call 6; refine (HV.out _).mono ?_; rintro e w' ⟨rfl, rfl⟩) | (go_at_call 7; refine (HR.out _).mono ?_; rintro e w' ⟨rfl, rfl⟩))
 go_ret
 exact ⟨rfl, hB⟩
set_option maxRecDepth 20000 in
set_option maxHeartbeats 800000 in
theorem law_dtext_yes (n m : Int) (s k d : Nat) (w : World) (hm : MaxC w) (ht : DTab w.heap.size w) (hv : ErrC w) (hx : validB n s = true) (hm0 : 0 ≤ m) (hm1 : m ≤ 255) (hd : m % 10 = (d : Int)) (hk : k = min 9 (s + d)) : Calls Tryz.prog 3 #[.int .i64 n, .int .i64 (s : Int), .int .u8 m] w fun e w' => e = .returned (.bool true) ∧ Below w.heap.size w w' := by
 have hT := fun w a => dtextg_any n s w a
 have hU := fun w => drtext_any n s w
 have hV := fun w => valid_any n s w
 have hR := fun w => rvalid_any n s w
 obtain ⟨_, s1, s2⟩ := validB_is hx
 have hl := tx_len n s hx
 have e : txDL n s = txDc n s := by unfold txDL; rw [hx, if_pos rfl, Int.toNat_natCast]
 obtain ⟨b1, b2⟩ := tx_back n s k hx (by omega) (by omega)
 obtain ⟨b3, b4⟩ := tx_same n s hx
 have hsk : scaleB (k : Int) = true := by unfold scaleB; simp; omega
 have hss : scaleB (s : Int) = true := by unfold scaleB; simp; omega
 have hP := fun w a b => dparse_any (txDc n s) (s : Int) w a b (by omega)
 have hQ := fun w a b => dparse_any (txDc n s) (k : Int) w a b (by omega)
 have hS := fun w => rrescale_any n s k 2 w
 rw [hss, if_pos rfl, if_pos rfl, Int.toNat_natCast, b3, b4] at hP
 rw [hsk, if_pos rfl, if_pos rfl, Int.toNat_natCast, b1, b2] at hQ
 rw [hx] at hV hR
 rw [e] at hT hU
 clear b1 b2 b3 b4 e hsk hss hl
 generalize rescV n s k 2 = V at *
 generalize rescE n s k 2 = E at *
 generalize txDc n s = T at *
 have hki : (k : Int) = min 9 ((s : Int) + (d : Int)) := by omega
 rw [hki] at hQ hS
 have hB := Below.refl w.heap.size w
 have HTB := Lib.hid ht
 have HM := Lib.hid hm
 have HE := Lib.hid hv
 have HT := Lib.hid hT
 have HU := Lib.hid hU
 have HV := Lib.hid hV
 have HR := Lib.hid hR
 have HP := Lib.hid hP
 have HQ := Lib.hid hQ
 have HS := Lib.hid hS
 clear hT hU hV hR hm ht hv hx hP hQ hS hki hk
 go_enter Tryz.func3, Tryz.ntmps3
 go_wp2_with (first | (go_at_call 4; refine (dawake_any _ (DTab.up HTB.out hB)).mono ?_; rintro e w' ⟨rfl, hb⟩; replace hB := below_more hB hb; clear hb) | (go_at_call 5; refine (HT.out _ (DTab.up HTB.out hB)).mono ?_; rintro e w' ⟨rfl, hb⟩; replace hB := below_more hB hb; clear hb) | (go_at_call 8; refine (HU.out _).mono ?_; rintro e w' ⟨rfl, hb⟩; replace hB := below_more hB hb; clear hb) | (go_at_call 6; refine (HV.out _).mono ?_; rintro e w' ⟨rfl, rfl⟩) | (go_at_call 7; refine (HR.out _).mono ?_; rintro e w' ⟨rfl, rfl⟩) | (go_at_call 10; refine (HS.out _).mono ?_; rintro e w' ⟨rfl, hb⟩; replace hB := below_more hB hb; clear hb) | (go_at_call 9; first | ((with_reducible refine (HP.out _ (HM.out.up hB) (HE.out.up hB)).mono ?_); rintro e w' ⟨rfl, hb⟩; replace hB := below_more hB hb; clear hb) | ((with_reducible refine (HQ.out _ (HM.out.up hB) (HE.out.up hB)).mono ?_); rintro e w' ⟨rfl, hb⟩; replace hB := below_more hB hb; clear hb)))
 go_ret
 exact ⟨rfl, hB⟩
theorem law_dtext (n sc m : Int) (w : World) (hm : MaxC w) (ht : DTab w.heap.size w) (hv : ErrC w) (hb : 0 ≤ m ∧ m ≤ 255) : Calls Tryz.prog 3 #[.int .i64 n, .int .i64 sc, .int .u8 m] w fun e w' => e = .returned (.bool true) ∧ Below w.heap.size w w' := by
 cases hx : validB n sc
 ·exact law_dtext_no n sc m w hm ht hv hx
 ·obtain ⟨_, s1, s2⟩ := validB_is hx
  obtain ⟨s, rfl⟩ : ∃ s : Nat, sc = (s : Int) := ⟨sc.toNat, by omega⟩
  exact law_dtext_yes n m s (min 9 (s + (m % 10).toNat)) (m % 10).toNat w hm ht hv hx hb.1 hb.2 (by omega) rfl
open Go.ChangeShapes Go.WideShapes Go.ChangeAt Go.WideMaps Go.WideElems Go.RowKit
theorem own : ownKnob Tryz.prog.godebug = none := by kernel_rfl
abbrev laidL : List (String × DataW Unit) := [("math/bits.deBruijn32tab", Rows.laid_math_bits_deBruijn32tab), ("math/bits.deBruijn64tab", Rows.laid_math_bits_deBruijn64tab), ("internal/strconv.uint64pow10", Rows.laid_internal_strconv_uint64pow10), ("unicode/utf8.acceptRanges", Rows.laid_unicode_utf8_acceptRanges), ("strconv.ErrRange", Rows.laid_strconv_ErrRange), ("strconv.ErrSyntax", Rows.laid_strconv_ErrSyntax), ("unicode/utf8.first", Rows.laid_unicode_utf8_first)]
theorem door_met (os : Os) (args : Array Value) : laidMetH Tryz.prog laidL ((World.laidAll Tryz.prog os laidL).forCall (fun _ _ => 0) ⟨#[], args, []⟩).memory := by
 rw [MakeChecks.laidMetH_plain _ _ _ (by kernel_rfl)]
 exact laidMet_laidAll _ (by kernel_rfl) (by kernel_rfl)
theorem pow_is : Rows.laid_internal_strconv_uint64pow10 (H := Unit) = Lib.tabData .u64 Lib.pow10Tab := by kernel_rfl
theorem tab_of_laid {W : World} (h : laidMetH Tryz.prog laidL W) : DTab W.heap.size W := by
 rw [MakeChecks.laidMetH_plain _ _ _ (by kernel_rfl)] at h
 obtain ⟨ps, ⟨g0, t0, cs0, f0, p0, q0, hg0, ht0, hv0, hd0, ⟨g1, t1, cs1, f1, p1, q1, hg1, ht1, hv1, hd1, ⟨g2, t2, cs2, f2, p2, q2, hg2, ht2, hv2, hd2, _, _⟩, _⟩, _⟩, _, _⟩ := h
 have hg : Tryz.prog.globalNamed "internal/strconv.uint64pow10" = some g2 := hg2
 have hgg : Tryz.prog.globalNamed "internal/strconv.uint64pow10" = some 3 := by kernel_rfl
 have hty : (Tryz.prog.globals[3]?).map (·.type) = some 104 := by kernel_rfl
 obtain rfl := Option.some.inj (hgg.symm.trans hg2)
 obtain rfl := Option.some.inj (hty.symm.trans ht2)
 refine Lib.tabBelow_of_tabIs ?_
 unfold Lib.TabIs
 rw [hv2]
 rw [pow_is] at hd2
 rw [← Lib.cells_of_tab Tryz.underlying104 Tryz.underlying67 (by kernel_rfl) (by kernel_rfl) hd2]
theorem err_star : "*" ++ "errors.errorString" = "*errors.errorString" := by decide
theorem row_err (u : TypeId) (h : Tryz.prog.typeName? 3 u = some "*errors.errorString") : u = 113 :=
 typeName_ptr_named (nm := "errors.errorString") (by rw [err_star]; kernel_rfl) (by kernel_rfl) (by decide) u (by rw [err_star]; exact h)
theorem errc_of_laid {W : World} (h : laidMetH Tryz.prog laidL W) : ErrC W := by
 rw [MakeChecks.laidMetH_plain _ _ _ (by kernel_rfl)] at h
 obtain ⟨a, s, hv, -⟩ := laid_sentinel h.tail.tail.tail.tail (g := 2) (ti := 41) (te := 115) (ts := 9) (by kernel_rfl) (by kernel_rfl) Tryz.underlying41 row_err Tryz.underlying113 Tryz.underlying115 rfl rfl Tryz.underlying9 (by kernel_rfl) (by kernel_rfl)
 refine ⟨.iface 113 (.pointer (some a)), ?_, .inr ⟨_, _, rfl⟩⟩
 have := World.var?_cell (P := Tryz.prog) (g := 2) (by kernel_rfl) hv 0
 simpa using this
theorem maxc_of_shaped {w : World} (h : w.ShapedOpen Tryz.prog) : MaxC w := cell_of_shapedOpen_int (zero := #[.int .i64 0]) (t := 3) h (of_decide_eq_true (by kernel_rfl)) (by kernel_rfl) rfl (by kernel_rfl) (by kernel_rfl) Tryz.underlying3
theorem lifted_shaped {H : Type} {enc : TypeId × Value → H} {a : Assume} {C : Checked} {os : Os} {f : FuncId} {fn : Func} {s : ChangeSpec} {conds : List PathCond} {apart fresh handsOn again : Bool} {X : World → Array Value → Prop}
  (hX : ∀ (w w' : World) (args : Array Value), w.heap = w'.heap → X w args → X w' args) (own : ownKnob C.prog.godebug = none) (started : os.Started) (noInit : C.prog.inits.idxOf? f = none) (hfn : C.prog.funcs[f]? = some fn)
  (witness : ∃ (w : World) (tape : Tape) (i : Input), w.os = os ∧ (w.forCall tape i).Shaped C.prog ∧ i.vars = [] ∧ Input.okWide C.prog (w.forCall tape i) .any w.heap.size f i ∧
   ((s.pre enc C.prog fn conds apart (w.forCall tape i).memory i.args ∧ X (w.forCall tape i).memory i.args) ∧ sizedMet enc C.prog fn (OpenSpec.ofChange s) apart (w.forCall tape i).memory i.args) ∧ a.holds C.prog (lone (Frame.enter C.prog f i.args .normal) [] (w.forCall tape i)))
  (contract : ∀ (W : World) (base : Nat) (args : Array Value) (ds gs : List (DataW H)) (before : List MemPlace), W.ShapedOpen C.prog →
   (∀ (j : Nat) t v, fn.params[j]? = some t → args[j]? = some v → Value.okWide C.prog W .any base t v) → DataW.Whole enc C.prog fn.params.toList s.vars apart W args.toList ds gs before → X W args →
   Calls C.prog f args W fun e W' => ∃ v, e = .returned v ∧ s.post enc C.prog fn apart fresh handsOn again W args v W') :
  ReturnsInHanded a C os f .any (fun w args => (s.pre enc C.prog fn conds apart w args ∧ X w args) ∧ sizedMet enc C.prog fn (OpenSpec.ofChange s) apart w args) (s.post enc C.prog fn apart fresh handsOn again) := by
 refine returnsInHanded_of_calls own started noInit witness fun w tape i _ hsh _ hok hpre _ => ?_
 obtain ⟨_, _, _, fn', hfn', _, _, _, _, hval⟩ := hok
 obtain rfl : fn' = fn := Option.some.inj (hfn'.symm.trans hfn)
 obtain ⟨⟨⟨ds, gs, before, hw, _⟩, hx⟩, _⟩ := hpre
 refine (contract (w.forCall tape i) w.heap.size i.args ds gs before hsh hval (DataW.Whole.of_heap (w' := w.forCall tape i) (by rfl) hw) (hX _ _ _ (by rfl) hx)).mono fun e W' ⟨v, he, hp⟩ => ?_
 subst he
 exact ChangeSpec.post_blind hp
theorem post_below {H : Type} {enc : TypeId × Value → H} {P : Program} {f : Func} {s : ChangeSpec} {ap fr ho ag : Bool} {W W' : World} {args : Array Value} {v : Value} {ds gs : List (DataW H)} {before pa pv : List MemPlace}
  (hW : DataW.Whole enc P f.params.toList s.vars ap W args.toList ds gs before)
  (hres : ∀ (b : Nat) (sp : Nat → Bool) (hd : Bool), DataW.TrodAll enc P W' b sp hd f.resultTypes.toList (v.resultList f.resultTypes.size) (s.fn H (ds ++ gs)).results [])
  (hargs : ∀ sp : Nat → Bool, (∀ p ∈ before, sp p.block = true) → DataW.TrodAll enc P W' 0 sp true f.params.toList args.toList (s.fn H (ds ++ gs)).args pa)
  (hvars : ∀ sp : Nat → Bool, (∀ p ∈ before, sp p.block = true) → DataW.TrodVars enc P W' sp s.vars (s.fn H (ds ++ gs)).vars pv)
  (hps : before = pa ++ pv) (hb : Below W.heap.size W W')
  (hok : ∀ (j : Nat) (t : TypeId) (r : Value), f.resultTypes[j]? = some t → (v.resultList f.resultTypes.size)[j]? = some r → Value.okWide P W' .any 0 t r) : s.post enc P f ap fr ho ag W args v W' := by
 have hlt : ∀ p ∈ before, p.block < W.heap.size := fun p hp => hW.lt p hp
 have hin : ∀ p ∈ before, (fun b => decide (b < W.heap.size)) p.block = true := fun p hp => by simpa using hlt p hp
 refine ⟨ds, gs, before, [], pa, pv, hW, hres _ _ _, hargs _ hin, hvars _ hin, World.keptBut_mono (fun p hp => ⟨hp, .inr (List.mem_append.1 (hps ▸ hp))⟩) (hb.frame (· ∈ before)), fun _ => ?_⟩
 obtain ⟨_, _, _, _, _, hz, hn⟩ := hW
 refine ⟨hok, _, _, ([] ++ pa) ++ pv, ⟨[] ++ pa, pv, trodAll_append (hargs _ (fun _ _ => rfl)) (hres _ _ _), hvars _ (fun _ _ => rfl), rfl, fun b off hp => ?_, fun ha => ?_⟩, ?_⟩
 ·have hbe : MemPlace.cell b off ∈ before := by rw [hps]; simpa using hp
  rw [hb.frozen (hlt _ hbe)]
  exact hz b off hbe
 ·have h9 := hn ha
  rw [hps] at h9
  simpa using h9
 ·intro p hp _
  rw [hps, ← List.nil_append pa]
  exact hp
theorem laid_out : laidOutB Tryz.prog = true := by kernel_rfl
theorem trodAll_stays {H : Type} {enc : TypeId × Value → H} {P : Program} (hl : laidOutB P = true) {W W' : World} (hb : Below W.heap.size W W') {sp : Nat → Bool} :
  ∀ {ts : List TypeId} {vs : List Value} {ds : List (DataW H)} {ps : List MemPlace}, (ts.all fun t => P.readableRec t && decide (t < P.types.size)) = true → DataW.TrodAll enc P W 0 (fun _ => true) true ts vs ds ps →
   (∀ x ∈ ps, x.block < W.heap.size) → (∀ x ∈ ps, sp x.block = true) → DataW.TrodAll enc P W' 0 sp true ts vs ds ps
 | [], vs, ds, ps, _, h, _, _ => by
  cases vs <;> cases ds <;> simp [DataW.TrodAll] at h ⊢
  exact h
 | t :: ts, vs, ds, ps, ht, h, hlt, hs => by
  obtain ⟨v, vs', d, ds', p, q, rfl, rfl, rfl, h1, h2⟩ := trodAll_cons h
  simp only [List.all_cons, Bool.and_eq_true, decide_eq_true_eq] at ht
  refine trodAll_cons_mk (WideElems.Trod_stays hl ht.1.1 ht.1.2 h1 (fun x hx => hb.same (hlt x (by simp [hx]))) fun x hx => hs x (by simp [hx])) ?_
  exact trodAll_stays hl hb ht.2 h2 (fun x hx => hlt x (by simp [hx])) fun x hx => hs x (by simp [hx])
end Go.Proofs.YthndbonfcdphgaaGreatDoor
