/- The reference's 'Parse' of a text that is none of an integer. -/
import Derived.Test.YtbfbijokhlkekaaDoorRefPBase
namespace Go.Proofs.YtbfbijokhlkekaaDoor
open Go.RowKit

set_option maxRecDepth 20000 in
set_option maxHeartbeats 1600000 in
theorem rparse_bad (s : ByteArray) (w : World) (hs : s.size ≤ 1000000) (hbad : badNum s.data.toList = true) :
    Calls Tryd.prog 14 #[.string s] w fun e w' => e = .returned (.tuple #[.agg #[.bool false, .slice none 0 0], .int .i64 3]) ∧ Below w.heap.size w w' := by
  rcases neg_cases s with ⟨hn, hr, h0⟩ | ⟨hn, hr, h0, h1⟩
  · rcases Nat.eq_zero_or_pos s.size with hz | hp
    · have hd : decide ((0 : Int) < (s.size : Int)) = false := by rw [decide_eq_false_iff_not]; omega
      have he : ((s.size : Int) == 0) = true := by rw [beq_iff_eq]; omega
      clear hz hr hn h0 hbad
      go_enter Tryd.func14, Tryd.ntmps14
      go_wp2
      exact bodyPost_ret (v := .tuple #[.agg #[.bool false, .slice none 0 0], .int .i64 3]) (by simp [results, Tryd.results14, go_sem]) rfl ⟨rfl, below_alloc_new _⟩
    · have h45 := h0 hp
      have hq : (((s[0]'hp).toNat : Int) == 45) = false := by rw [beq_eq_false_iff_ne]; omega
      have hd : decide ((0 : Int) < (s.size : Int)) = true := by rw [decide_eq_true_iff]; omega
      have he : ((s.size : Int) == 0) = false := by rw [beq_eq_false_iff_ne]; omega
      by_cases h48 : (s[0]'hp).toNat = 48
      · have hb1 : (s.toList == [48]) = false := by
          rw [ByteArray.toList_eq, beq_eq_false_iff_ne]; intro e; rw [e] at hbad; revert hbad; decide
        have hb2 : (((s[0]'hp).toNat : Int) == 48) = true := by rw [beq_iff_eq]; omega
        clear h48 h45 hr hn h0 hbad
        go_enter Tryd.func14, Tryd.ntmps14
        go_wp2
        exact bodyPost_ret (v := .tuple #[.agg #[.bool false, .slice none 0 0], .int .i64 3]) (by simp [results, Tryd.results14, go_sem]) rfl ⟨rfl, below_alloc_new _⟩
      · have hb2 : (((s[0]'hp).toNat : Int) == 48) = false := by rw [beq_eq_false_iff_ne]; omega
        have HBAD : Hid ((∀ c ∈ s.data.toList, isDig c = true) → False) := fun hdg =>
          bad_of_digits hbad (by rw [hr]; exact hdg) (by rw [hr]; intro e; have := size_list s; rw [e] at this; simp at this; omega)
            (by rw [hr, head_byte hp]; intro e; apply h48; have := congrArg (fun (o : Option UInt8) => (o.getD 0).toNat) e; exact this)
        have HSZ : Hid (s.size = s.size) := rfl
        clear h48 h45 hr hn h0 hbad
        go_enter Tryd.func14, Tryd.ntmps14
        go_wp2
        go_loop [5] (fun v => ∃ k : Nat, k ≤ s.size ∧ v = .int .i64 k ∧ Hid (∀ j, j < k → ∀ (h2 : j < s.size), isDig (s[j]'h2) = true)) (fun v => s.size - (intOf v).toNat)
        case atStart => exact ⟨0, Nat.zero_le _, rfl, fun j h => absurd h (by omega)⟩
        case round =>
          obtain ⟨k, hk, rfl, hall⟩ := hrel
          by_cases hlz : k < s.size
          · have hlt : k < s.size := hlz
            by_cases hdg : isDig (s[k]'hlt) = true
            · obtain ⟨b1, b2⟩ := isDig_iff.1 hdg
              have hdq : decide ((((s[k]'hlt).toNat : Nat) : Int) < 48) = false := by rw [decide_eq_false_iff_not]; omega
              have HDG := Lib.hid hdg
              clear hdg
              go_wp2
              go_round
              case rel => exact ⟨k + 1, by omega, by go_num, fun j hj h2 => by
                rcases Nat.lt_succ_iff_lt_or_eq.1 hj with h3 | rfl
                · exact hall.out j h3 h2
                · exact HDG.out⟩
              case measure => simp [intOf]; omega
            · by_cases hl48 : (s[k]'hlt).toNat < 48
              · have hdq : decide ((((s[k]'hlt).toNat : Nat) : Int) < 48) = true := by rw [decide_eq_true_iff]; omega
                clear hdg
                go_wp2
                exact bodyPost_ret (v := .tuple #[.agg #[.bool false, .slice none 0 0], .int .i64 3]) (by simp [results, Tryd.results14, go_sem]) rfl ⟨rfl, below_alloc_new _⟩
              · have hdq : decide ((((s[k]'hlt).toNat : Nat) : Int) < 48) = false := by rw [decide_eq_false_iff_not]; omega
                have h57 : ¬ (s[k]'hlt).toNat ≤ 57 := fun h => hdg (isDig_iff.2 ⟨by omega, h⟩)
                clear hdg
                go_wp2
                exact bodyPost_ret (v := .tuple #[.agg #[.bool false, .slice none 0 0], .int .i64 3]) (by simp [results, Tryd.results14, go_sem]) rfl ⟨rfl, below_alloc_new _⟩
          · exact absurd (HBAD.out (all_dig' s fun j h2 => hall.out j (by have := HSZ.out; omega) h2)) id
  · have hes : (s.extract 1 s.size).size = s.size - 1 := by
      rw [← size_list, Lib.extract_to_end, List.length_drop, size_list]
    have hq : (((s[0]'h0).toNat : Int) == 45) = true := by rw [beq_iff_eq]; omega
    have hd : decide ((0 : Int) < (s.size : Int)) = true := by rw [decide_eq_true_iff]; omega
    rcases Nat.eq_zero_or_pos (s.size - 1) with hz | hp1
    · have he : (((s.size - 1 : Nat) : Int) == 0) = true := by rw [beq_iff_eq]; omega
      clear hz hr hn h1 hbad hes
      go_enter Tryd.func14, Tryd.ntmps14
      go_wp2
      exact bodyPost_ret (v := .tuple #[.agg #[.bool false, .slice none 0 0], .int .i64 3]) (by simp [results, Tryd.results14, go_sem]) rfl ⟨rfl, below_alloc_new _⟩
    · have he : (((s.size - 1 : Nat) : Int) == 0) = false := by rw [beq_eq_false_iff_ne]; omega
      have hps : 0 < (s.extract 1 s.size).size := by omega
      by_cases h48 : ((s.extract 1 s.size)[0]'hps).toNat = 48
      · have hb1 : (s.toList == [48]) = false := by
          rw [ByteArray.toList_eq, beq_eq_false_iff_ne]; intro e
          have := size_list s; rw [e] at this; simp at this; omega
        have hb2 : ((((s.extract 1 s.size)[0]'hps).toNat : Int) == 48) = true := by rw [beq_iff_eq]; omega
        clear h48 h1 hr hn hbad hes
        go_enter Tryd.func14, Tryd.ntmps14
        go_wp2
        exact bodyPost_ret (v := .tuple #[.agg #[.bool false, .slice none 0 0], .int .i64 3]) (by simp [results, Tryd.results14, go_sem]) rfl ⟨rfl, below_alloc_new _⟩
      · have hb2 : ((((s.extract 1 s.size)[0]'hps).toNat : Int) == 48) = false := by rw [beq_eq_false_iff_ne]; omega
        have HBAD : Hid ((∀ c ∈ (s.extract 1 s.size).data.toList, isDig c = true) → False) := fun hdg =>
          bad_of_digits hbad (by rw [hr]; exact hdg) (by rw [hr]; intro e; have := size_list (s.extract 1 s.size); rw [e] at this; simp at this; omega)
            (by rw [hr, head_byte hps]; intro e; apply h48; have := congrArg (fun (o : Option UInt8) => (o.getD 0).toNat) e; exact this)
        have HSZ : Hid ((s.extract 1 s.size).size = s.size - 1) := hes
        clear h48 h1 hr hn hbad hes
        go_enter Tryd.func14, Tryd.ntmps14
        go_wp2
        go_loop [5] (fun v => ∃ k : Nat, k ≤ s.size - 1 ∧ v = .int .i64 k ∧ Hid (∀ j, j < k → ∀ (h2 : j < (s.extract 1 s.size).size), isDig ((s.extract 1 s.size)[j]'h2) = true)) (fun v => (s.size - 1) - (intOf v).toNat)
        case atStart => exact ⟨0, Nat.zero_le _, rfl, fun j h => absurd h (by omega)⟩
        case round =>
          obtain ⟨k, hk, rfl, hall⟩ := hrel
          by_cases hlz : k < s.size - 1
          · have hlt : k < (s.extract 1 s.size).size := (by rw [HSZ.out]; exact hlz)
            by_cases hdg : isDig ((s.extract 1 s.size)[k]'hlt) = true
            · obtain ⟨b1, b2⟩ := isDig_iff.1 hdg
              have hdq : decide (((((s.extract 1 s.size)[k]'hlt).toNat : Nat) : Int) < 48) = false := by rw [decide_eq_false_iff_not]; omega
              have HDG := Lib.hid hdg
              clear hdg
              go_wp2
              go_round
              case rel => exact ⟨k + 1, by omega, by go_num, fun j hj h2 => by
                rcases Nat.lt_succ_iff_lt_or_eq.1 hj with h3 | rfl
                · exact hall.out j h3 h2
                · exact HDG.out⟩
              case measure => simp [intOf]; omega
            · by_cases hl48 : ((s.extract 1 s.size)[k]'hlt).toNat < 48
              · have hdq : decide (((((s.extract 1 s.size)[k]'hlt).toNat : Nat) : Int) < 48) = true := by rw [decide_eq_true_iff]; omega
                clear hdg
                go_wp2
                exact bodyPost_ret (v := .tuple #[.agg #[.bool false, .slice none 0 0], .int .i64 3]) (by simp [results, Tryd.results14, go_sem]) rfl ⟨rfl, below_alloc_new _⟩
              · have hdq : decide (((((s.extract 1 s.size)[k]'hlt).toNat : Nat) : Int) < 48) = false := by rw [decide_eq_false_iff_not]; omega
                have h57 : ¬ ((s.extract 1 s.size)[k]'hlt).toNat ≤ 57 := fun h => hdg (isDig_iff.2 ⟨by omega, h⟩)
                clear hdg
                go_wp2
                exact bodyPost_ret (v := .tuple #[.agg #[.bool false, .slice none 0 0], .int .i64 3]) (by simp [results, Tryd.results14, go_sem]) rfl ⟨rfl, below_alloc_new _⟩
          · exact absurd (HBAD.out (all_dig' (s.extract 1 s.size) fun j h2 => hall.out j (by have := HSZ.out; omega) h2)) id
end Go.Proofs.YtbfbijokhlkekaaDoor
