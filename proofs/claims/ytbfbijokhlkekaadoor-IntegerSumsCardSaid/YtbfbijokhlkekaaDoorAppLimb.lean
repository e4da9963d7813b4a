/- 'appendLimb' appends nine digits; 'strconv.AppendUint' the decimal digits of a number. -/
import Derived.Test.YtbfbijokhlkekaaDoorDec
import Derived.Test.YtbfbijokhlkekaaDoorShelf
namespace Go.Proofs.YtbfbijokhlkekaaDoor
open Go.RowKit
open Go.Lib (decDigits)

theorem info5 : (Tryd.prog.info? 5).map (fun i => (i.zero, i.size, i.bytes)) = some (some (.int .u8 0), 1, 1) := by kernel_rfl
/-- The bytes of a text as numbers. -/
def codes (l : List UInt8) : List Nat := l.map (·.toNat)
theorem codes_append (a b : List UInt8) : codes (a ++ b) = codes a ++ codes b := by simp [codes]
theorem codes_length (a : List UInt8) : (codes a).length = a.length := by simp [codes]
theorem byteCells_codes (l : List UInt8) : Lib.byteCells l = (codes l).map fun (d : Nat) => Value.int .u8 (d : Int) := by simp [Lib.byteCells, codes]
theorem digit_code (d : Nat) : (UInt8.ofNat (48 + d % 10)).toNat = 48 + d % 10 := by
  rw [UInt8.toNat_ofNat']; omega
theorem padk_step (r j : Nat) (hj : j < 9) : codes ((padk 9 r).take (j + 1)) = codes ((padk 9 r).take j) ++ [48 + r / (10 ^ (9 - j) / 10) % 10] := by
  match j, hj with
  | 0, _ => simp [padk, codes, Nat.div_div_eq_div_mul]; omega
  | 1, _ => simp [padk, codes, Nat.div_div_eq_div_mul]; omega
  | 2, _ => simp [padk, codes, Nat.div_div_eq_div_mul]; omega
  | 3, _ => simp [padk, codes, Nat.div_div_eq_div_mul]; omega
  | 4, _ => simp [padk, codes, Nat.div_div_eq_div_mul]; omega
  | 5, _ => simp [padk, codes, Nat.div_div_eq_div_mul]; omega
  | 6, _ => simp [padk, codes, Nat.div_div_eq_div_mul]; omega
  | 7, _ => simp [padk, codes, Nat.div_div_eq_div_mul]; omega
  | 8, _ => simp [padk, codes, Nat.div_div_eq_div_mul]; omega
theorem unit_facts (j : Nat) (hj : j < 9) : 1 ≤ 10 ^ (9 - j) / 10 ∧ 10 ^ (9 - j) / 10 ≤ 100000000 ∧ 10 ^ (9 - j) / 10 / 10 = 10 ^ (9 - (j + 1)) / 10 := by
  match j, hj with
  | 0, _ => decide
  | 1, _ => decide
  | 2, _ => decide
  | 3, _ => decide
  | 4, _ => decide
  | 5, _ => decide
  | 6, _ => decide
  | 7, _ => decide
  | 8, _ => decide

set_option maxRecDepth 100000 in
set_option maxHeartbeats 800000 in
theorem appendLimb_any (r B : Nat) (v : Value) (T : List UInt8) (w : World) (hr : r < 1000000000) (hT : T.length ≤ 10000000) (hB : B ≤ w.heap.size) (hown : Own .u8 5 w B v (codes T)) :
    Calls Tryd.prog 46 #[v, .int .u32 r] w fun e w' => ∃ v', e = .returned v' ∧ Own .u8 5 w' B v' (codes (T ++ padk 9 r)) ∧ Below B w w' := by
  obtain ⟨i0, hi, hz0, hz1, hz2⟩ := info_parts info5
  go_enter Tryd.func46, Tryd.ntmps46
  go_wp2
  go_loopw [0, 5] (fun tv uv wr => ∃ j : Nat, j ≤ 9 ∧ uv = .int .u32 ((10 ^ (9 - j) / 10 : Nat) : Int) ∧ Own .u8 5 wr B tv (codes T ++ codes ((padk 9 r).take j)) ∧ Below B w wr) (fun _ uv _ => (intOf uv).toNat)
  case atStart => exact ⟨0, by omega, rfl, by simpa [codes] using hown, Below.refl _ _⟩
  case round =>
    obtain ⟨j, hj, rfl, ho, hbw⟩ := hrel
    by_cases hlt : j < 9
    · obtain ⟨u1, u2, u3⟩ := unit_facts j hlt
      have hst := padk_step r j hlt
      have hlen : (codes T ++ codes ((padk 9 r).take j)).length ≤ 20000000 := by
        rw [List.length_append, codes_length, codes_length, List.length_take, padk_length]; omega
      generalize 10 ^ (9 - j) / 10 = u at *
      have U3 := Lib.hid u3
      have HST := Lib.hid hst
      have HLEN := Lib.hid hlen
      clear u3 hst hlen
      have q1 : 0 ≤ (r : Int) / (u : Int) := Int.ediv_nonneg (by omega) (by omega)
      have q2 : (r : Int) / (u : Int) ≤ (r : Int) := Int.ediv_le_self _ (by omega)
      have hsz := hbw.size
      have hu0 : ((u : Int) == 0) = false := by simp; omega
      have hu1 : decide ((0 : Int) < (u : Int)) = true := by simp; omega
      go_wp2_with (first
        | (at_builtin; go_loud (refine wpList_append_num wr rfl (.tmp 10) (.tmp 17) 65 rfl .u8 B 5 i0 1 Tryd.underlying65 hi hz0 hz1 hz2 (by omega) u0 _ (by rfl) ho _ (48 + r / u % 10) ?_ 1 rfl (Nat.le_trans HLEN.out (by omega)) ?_ ?_; (simp); (omega); intro v2 w2 ho2 hb2))
        | fail)
      go_roundw
      case rel =>
        have o2 := ho2.out
        rw [List.append_assoc, ← HST.out] at o2
        exact ⟨j + 1, by omega, by rw [← U3.out]; simp, o2, hbw.trans hb2⟩
      case measure => simp [intOf]; omega
    · obtain rfl : j = 9 := by omega
      have e9 : ((10 ^ (9 - 9) / 10 : Nat) : Int) = 0 := by decide
      rw [e9]
      have o9 : Own .u8 5 wr B u0 (codes (T ++ padk 9 r)) := by
        rw [List.take_of_length_le (by rw [padk_length]; omega), ← codes_append] at ho
        exact ho
      have hdf : decide ((0 : Int) < (0 : Int)) = false := by decide
      clear ho e9
      go_wp2
      go_ret
      exact ⟨_, rfl, o9, hbw⟩

set_option maxHeartbeats 800000 in
theorem appendUint_any (u B : Nat) (v : Value) (T : List UInt8) (w : World) (hu : u < 10000000000000000000) (hT : T.length ≤ 10000000) (hB : B ≤ w.heap.size) (hown : Own .u8 5 w B v (codes T))
    (htab : Lib.TabIs Tryd.prog w "internal/strconv.uint64pow10" .u64 Lib.pow10Tab) :
    Calls Tryd.prog 45 #[v, .int .u64 u, .int .i64 10] w fun e w' => ∃ v', e = .returned v' ∧ Own .u8 5 w' B v' (codes (T ++ decDigits u)) ∧ Below B w w' := by
  have hc : Calls Tryd.prog 65 #[v, .int .u64 u, .int .i64 10] w fun e w' => ∃ v', e = .returned v' ∧ w'.ownsRow B 5 1 v' (codes T ++ codes (decDigits u)).length ((codes T ++ codes (decDigits u)).map fun (d : Nat) => Value.int .u8 (d : Int)) ∧ Below B w w' := by
    by_cases h : u < 100
    · refine (Tryd.internal_strconv_AppendUint_10_small B _ u h v _ w hown hB (by rw [codes_length]; omega)).mono ?_
      rintro e w' ⟨v', he, ho, hb, _⟩
      refine ⟨v', he, ?_, hb⟩
      rw [List.length_append, codes_length (decDigits u), List.map_append, ← byteCells_codes (decDigits u)]
      exact ho
    · refine (Tryd.internal_strconv_AppendUint_10_big B _ u (by omega) (by omega) v _ w hown hB (by rw [codes_length]; omega) htab).mono ?_
      rintro e w' ⟨v', he, ho, hb, _⟩
      refine ⟨v', he, ?_, hb⟩
      rw [List.length_append, codes_length (decDigits u), List.map_append, ← byteCells_codes (decDigits u)]
      exact ho
  have HC := Lib.hid hc
  clear hc htab hown
  go_enter Tryd.func45, Tryd.ntmps45
  go_wp2_with fail
  refine HC.out.mono ?_
  rintro e w' ⟨v', rfl, ho, hb⟩
  have HO := Lib.hid ho
  clear ho
  go_wp2_with fail
  go_ret
  exact ⟨_, rfl, by rw [codes_append]; exact HO.out, hb⟩
end Go.Proofs.YtbfbijokhlkekaaDoor
