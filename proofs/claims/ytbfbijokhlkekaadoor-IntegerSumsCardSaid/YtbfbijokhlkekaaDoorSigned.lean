/- 'signed' makes an integer of a sign and limbs. -/
import Derived.Test.YtbfbijokhlkekaaDoorBase
namespace Go.Proofs.YtbfbijokhlkekaaDoor
open Go.RowKit

set_option maxHeartbeats 400000 in
theorem signed_any (neg : Bool) (A : Option Addr) (c n : Nat) (w : World) :
    Calls Tryd.prog 42 #[.bool neg, .slice A n c] w fun e w' => e = .returned (.agg #[.bool (neg && decide (0 < n)), .slice A n c]) ∧ Below w.heap.size w w' := by
  rcases Nat.eq_zero_or_pos n with rfl | hn
  · have hd : decide ((0 : Int) < ((0 : Nat) : Int)) = false := by simp
    cases neg
    · go_enter Tryd.func42, Tryd.ntmps42
      go_wp2
      exact bodyPost_ret (v := .agg #[.bool false, .slice A 0 c]) (by simp [results, Tryd.results42, go_sem]) rfl ⟨rfl, ((Below.refl _ _).alloc (Nat.le_refl _) _)⟩
    · go_enter Tryd.func42, Tryd.ntmps42
      go_wp2
      exact bodyPost_ret (v := .agg #[.bool false, .slice A 0 c]) (by simp [results, Tryd.results42, go_sem]) rfl ⟨rfl, ((Below.refl _ _).alloc (Nat.le_refl _) _)⟩
  · have hd : decide ((0 : Int) < (n : Int)) = true := by simp; omega
    cases neg
    · go_enter Tryd.func42, Tryd.ntmps42
      go_wp2
      exact bodyPost_ret (v := .agg #[.bool false, .slice A n c]) (by simp [results, Tryd.results42, go_sem]) rfl ⟨rfl, ((Below.refl _ _).alloc (Nat.le_refl _) _)⟩
    · go_enter Tryd.func42, Tryd.ntmps42
      go_wp2
      exact bodyPost_ret (v := .agg #[.bool true, .slice A n c]) (by simp [results, Tryd.results42, go_sem]) rfl ⟨by simp [hn], ((Below.refl _ _).alloc (Nat.le_refl _) _)⟩
end Go.Proofs.YtbfbijokhlkekaaDoor
