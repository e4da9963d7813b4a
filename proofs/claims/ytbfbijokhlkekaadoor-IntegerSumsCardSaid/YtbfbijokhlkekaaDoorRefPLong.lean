/- The reference's 'Parse' of a text that is too long. -/
import Derived.Test.YtbfbijokhlkekaaDoorRefPBase
namespace Go.Proofs.YtbfbijokhlkekaaDoor
open Go.RowKit

set_option maxRecDepth 20000 in
set_option maxHeartbeats 1600000 in
theorem rparse_long (s : ByteArray) (w : World) (hs : s.size ≤ 1000000) (hbad : badNum s.data.toList = false) (hlong : 2000 < (restOf s.data.toList).length) :
    Calls Tryd.prog 14 #[.string s] w fun e w' => e = .returned (.tuple #[.agg #[.bool false, .slice none 0 0], .int .i64 6]) ∧ Below w.heap.size w w' := by
  obtain ⟨hdig, hne, hhead, _⟩ := good_facts hbad
  have HV := hlong
  clear hlong hbad
  rcases neg_cases s with ⟨hn, hr, h0⟩ | ⟨hn, hr, h0, h1⟩
  · have hp : 0 < s.size := by
      have := List.length_pos_iff.2 hne; rw [hr] at this; simpa using this
    have h45 := h0 hp
    have hq : (((s[0]'hp).toNat : Int) == 45) = false := by rw [beq_eq_false_iff_ne]; omega
    have hd : decide ((0 : Int) < (s.size : Int)) = true := by rw [decide_eq_true_iff]; omega
    have he : ((s.size : Int) == 0) = false := by rw [beq_eq_false_iff_ne]; omega
    have hsl := size_list s
    rw [hr] at hdig hhead HV
    rw [hn] at *
    have hby := byte_dig s hdig
    have HB := Lib.hid hby
    have HDIG := Lib.hid hdig
    have hDs : s.size ≤ s.size := Nat.le_refl _
    have hlt0 : decide ((s.size : Int) < (s.size : Int)) = false := by simp
    rw [size_list] at HV
    clear h45 h0 hby
    by_cases h48 : (s[0]'hp).toNat = 48
    · have hs48 : s.data.toList = [48] := by
        have := (hhead (by rw [head_byte hp]; congr 1; apply UInt8.toNat_inj.1; rw [h48]; rfl)).2
        exact this
      have hb1 : (s.toList == [48]) = true := by rw [ByteArray.toList_eq, hs48]; rfl
      have hb2 : (((s[0]'hp).toNat : Int) == 48) = true := by rw [beq_iff_eq]; omega
      clear hs48 h48 hr hn hdig hhead hne hsl
      go_enter Tryd.func14, Tryd.ntmps14
      go_wp2
      go_loop [5] (fun v => ∃ k : Nat, k ≤ s.size ∧ v = .int .i64 k) (fun v => s.size - (intOf v).toNat)
      case atStart => exact ⟨0, Nat.zero_le _, rfl⟩
      case round =>
        obtain ⟨k, hk, rfl⟩ := hrel
        by_cases hlz : k < s.size
        · have hlt : k < s.size := hlz
          obtain ⟨b1, b2, _⟩ := HB.out k hlt
          have hdq : decide ((((s[k]'hlt).toNat : Nat) : Int) < 48) = false := by rw [decide_eq_false_iff_not]; omega
          go_wp2
          go_round
          case rel => exact ⟨k + 1, by omega, by go_num⟩
          case measure => simp [intOf]; omega
        · obtain rfl : k = s.size := by omega
          go_wp2
          refine bodyPost_ret (v := .tuple #[.agg #[.bool false, .slice none 0 0], .int .i64 6]) (by simp [results, Tryd.results14, go_sem]) rfl ⟨rfl, ?_⟩
          exact below_alloc_new _
    · have hb2 : (((s[0]'hp).toNat : Int) == 48) = false := by rw [beq_eq_false_iff_ne]; omega
      clear h48 hr hn hdig hhead hne hsl
      go_enter Tryd.func14, Tryd.ntmps14
      go_wp2
      go_loop [5] (fun v => ∃ k : Nat, k ≤ s.size ∧ v = .int .i64 k) (fun v => s.size - (intOf v).toNat)
      case atStart => exact ⟨0, Nat.zero_le _, rfl⟩
      case round =>
        obtain ⟨k, hk, rfl⟩ := hrel
        by_cases hlz : k < s.size
        · have hlt : k < s.size := hlz
          obtain ⟨b1, b2, _⟩ := HB.out k hlt
          have hdq : decide ((((s[k]'hlt).toNat : Nat) : Int) < 48) = false := by rw [decide_eq_false_iff_not]; omega
          go_wp2
          go_round
          case rel => exact ⟨k + 1, by omega, by go_num⟩
          case measure => simp [intOf]; omega
        · obtain rfl : k = s.size := by omega
          go_wp2
          refine bodyPost_ret (v := .tuple #[.agg #[.bool false, .slice none 0 0], .int .i64 6]) (by simp [results, Tryd.results14, go_sem]) rfl ⟨rfl, ?_⟩
          exact below_alloc_new _
  · have hes : (s.extract 1 s.size).size = s.size - 1 := by
      rw [← size_list, Lib.extract_to_end, List.length_drop, size_list]
    have hps : 0 < (s.extract 1 s.size).size := by
      have := List.length_pos_iff.2 hne; rw [hr] at this; simpa using this
    have hq : (((s[0]'h0).toNat : Int) == 45) = true := by rw [beq_iff_eq]; omega
    have hd : decide ((0 : Int) < (s.size : Int)) = true := by rw [decide_eq_true_iff]; omega
    have hp1 : 0 < s.size - 1 := by omega
    have he : (((s.size - 1 : Nat) : Int) == 0) = false := by rw [beq_eq_false_iff_ne]; omega
    have hb2 : ((((s.extract 1 s.size)[0]'hps).toNat : Int) == 48) = false := by
      rw [beq_eq_false_iff_ne]
      intro e
      have := (hhead (by rw [hr, head_byte hps]; congr 1; apply UInt8.toNat_inj.1; have : ((s.extract 1 s.size)[0]'hps).toNat = 48 := by omega
                         rw [this]; rfl)).1
      rw [this] at hn; cases hn
    rw [hr] at hdig HV
    rw [hn] at *
    have hby := byte_dig (s.extract 1 s.size) hdig
    have HB := Lib.hid hby
    have HDIG := Lib.hid hdig
    have HES := Lib.hid hes
    rw [size_list, hes] at HV
    have hlt0 : decide (((s.size - 1 : Nat) : Int) < (s.size : Int)) = true := by rw [decide_eq_true_iff]; omega
    clear h1 hby hr hn hdig hhead hne hes
    go_enter Tryd.func14, Tryd.ntmps14
    go_wp2
    go_loop [5] (fun v => ∃ k : Nat, k ≤ (s.size - 1) ∧ v = .int .i64 k) (fun v => (s.size - 1) - (intOf v).toNat)
    case atStart => exact ⟨0, Nat.zero_le _, rfl⟩
    case round =>
      obtain ⟨k, hk, rfl⟩ := hrel
      by_cases hlz : k < (s.size - 1)
      · have hlt : k < (s.extract 1 s.size).size := (by rw [HES.out]; exact hlz)
        obtain ⟨b1, b2, _⟩ := HB.out k hlt
        have hdq : decide (((((s.extract 1 s.size)[k]'hlt).toNat : Nat) : Int) < 48) = false := by rw [decide_eq_false_iff_not]; omega
        go_wp2
        go_round
        case rel => exact ⟨k + 1, by omega, by go_num⟩
        case measure => simp [intOf]; omega
      · obtain rfl : k = (s.size - 1) := by omega
        go_wp2
        refine bodyPost_ret (v := .tuple #[.agg #[.bool false, .slice none 0 0], .int .i64 6]) (by simp [results, Tryd.results14, go_sem]) rfl ⟨rfl, ?_⟩
        exact below_alloc_new _

end Go.Proofs.YtbfbijokhlkekaaDoor
