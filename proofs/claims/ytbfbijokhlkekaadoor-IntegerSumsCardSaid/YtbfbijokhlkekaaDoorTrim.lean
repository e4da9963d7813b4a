/- 'trim' leaves out the zeros at the end of a row. -/
import Derived.Test.YtbfbijokhlkekaaDoorBase
namespace Go.Proofs.YtbfbijokhlkekaaDoor
open Go.RowKit

set_option maxHeartbeats 400000 in
theorem trim_any (A : Option Addr) (c b o : Nat) (L : List Nat) (w : World) (hl : L.length ≤ 4000000) (hc : L.length ≤ c)
    (hA : 0 < L.length → A = some ⟨b, o, none⟩) (hcell : Cells .u32 w b o L) :
    Calls Tryd.prog 63 #[.slice A L.length c] w fun e w' => e = .returned (.slice A (trimN L L.length) c) ∧ w = w' := by
  generalize hn : L.length = n at *
  have HN := Lib.hid hn
  clear hn
  have HA := Lib.hid hA
  clear hA
  go_enter Tryd.func63, Tryd.ntmps63
  go_wp2
  go_loop [3] (fun v => ∃ k : Nat, k ≤ n ∧ v = .int .i64 k ∧ Hid (trimN L k = trimN L n)) (fun v => (intOf v).toNat)
  case atStart => exact ⟨n, Nat.le_refl _, rfl, rfl⟩
  case round =>
    obtain ⟨k, hk, rfl, ht⟩ := hrel
    rcases Nat.eq_zero_or_pos k with rfl | hpos
    · have hd : decide ((0 : Int) < ((0 : Nat) : Int)) = false := by simp
      go_wp2
      go_ret
      exact ⟨by rw [← ht.out]; rfl, rfl⟩
    · obtain ⟨m, rfl⟩ : ∃ m, k = m + 1 := ⟨k - 1, by omega⟩
      have h1 : ((0 : Int) < ((m + 1 : Nat) : Int)) := by omega
      have hc := hcell m (by rw [HN.out]; omega)
      obtain rfl := HA.out (by omega)
      by_cases hz : nth L m = 0
      · go_wp2
        go_round
        case rel => exact ⟨m, by omega, rfl, by have := ht.out; rw [trimN, if_pos hz] at this; exact this⟩
        case measure => simp [intOf]
      · go_wp2
        go_ret
        exact ⟨by have := ht.out; rw [trimN, if_neg hz] at this; rw [← this]; rfl, rfl⟩
end Go.Proofs.YtbfbijokhlkekaaDoor
