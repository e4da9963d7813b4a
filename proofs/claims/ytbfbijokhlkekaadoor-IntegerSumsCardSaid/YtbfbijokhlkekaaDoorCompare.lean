/- 'compare' orders two rows: by their lengths, then by the highest numbers in which they differ. -/
import Derived.Test.YtbfbijokhlkekaaDoorBase
namespace Go.Proofs.YtbfbijokhlkekaaDoor
open Go.RowKit

set_option maxHeartbeats 400000 in
theorem nan_int (x : Int) (w : World) : Calls Tryd.prog 78 #[.int .i64 x] w fun e w' => e = .returned (.bool false) ∧ w = w' := by
  go_enter Tryd.func78, Tryd.ntmps78
  go_wp2
  go_ret
  exact ⟨by simp, rfl⟩
set_option maxHeartbeats 400000 in
theorem nan_u32 (x : Int) (w : World) : Calls Tryd.prog 79 #[.int .u32 x] w fun e w' => e = .returned (.bool false) ∧ w = w' := by
  go_enter Tryd.func79, Tryd.ntmps79
  go_wp2
  go_ret
  exact ⟨by simp, rfl⟩
set_option maxHeartbeats 400000 in
theorem cmp_int (x y : Nat) (w : World) : Calls Tryd.prog 67 #[.int .i64 x, .int .i64 y] w fun e w' => e = .returned (.int .i64 (cmpZ x y)) ∧ w = w' := by
  rcases Nat.lt_trichotomy x y with h | h | h
  · go_enter Tryd.func67, Tryd.ntmps67
    go_wp2_with (go_at_call 78; refine (nan_int _ _).mono ?_; rintro e w' ⟨rfl, rfl⟩)
    go_ret
    exact ⟨ret_int (by unfold cmpZ; simp [h]), rfl⟩
  · subst h
    go_enter Tryd.func67, Tryd.ntmps67
    go_wp2_with (go_at_call 78; refine (nan_int _ _).mono ?_; rintro e w' ⟨rfl, rfl⟩)
    go_ret
    exact ⟨ret_int (by unfold cmpZ; simp), rfl⟩
  · go_enter Tryd.func67, Tryd.ntmps67
    go_wp2_with (go_at_call 78; refine (nan_int _ _).mono ?_; rintro e w' ⟨rfl, rfl⟩)
    go_ret
    exact ⟨ret_int (by unfold cmpZ; rw [if_neg (by omega), if_neg (by omega)]), rfl⟩
set_option maxHeartbeats 400000 in
theorem cmp_u32 (x y : Nat) (w : World) : Calls Tryd.prog 68 #[.int .u32 x, .int .u32 y] w fun e w' => e = .returned (.int .i64 (cmpZ x y)) ∧ w = w' := by
  rcases Nat.lt_trichotomy x y with h | h | h
  · go_enter Tryd.func68, Tryd.ntmps68
    go_wp2_with (go_at_call 79; refine (nan_u32 _ _).mono ?_; rintro e w' ⟨rfl, rfl⟩)
    go_ret
    exact ⟨ret_int (by unfold cmpZ; simp [h]), rfl⟩
  · subst h
    go_enter Tryd.func68, Tryd.ntmps68
    go_wp2_with (go_at_call 79; refine (nan_u32 _ _).mono ?_; rintro e w' ⟨rfl, rfl⟩)
    go_ret
    exact ⟨ret_int (by unfold cmpZ; simp), rfl⟩
  · go_enter Tryd.func68, Tryd.ntmps68
    go_wp2_with (go_at_call 79; refine (nan_u32 _ _).mono ?_; rintro e w' ⟨rfl, rfl⟩)
    go_ret
    exact ⟨ret_int (by unfold cmpZ; rw [if_neg (by omega), if_neg (by omega)]), rfl⟩

set_option maxHeartbeats 800000 in
theorem compare_any (A A' : Option Addr) (c b o c' b' o' : Nat) (L M : List Nat) (w : World) (hl : L.length ≤ 1000000) (hm : M.length ≤ 1000000)
    (hA : 0 < L.length → A = some ⟨b, o, none⟩) (hcell : Cells .u32 w b o L) (hA' : 0 < M.length → A' = some ⟨b', o', none⟩) (hcell' : Cells .u32 w b' o' M) :
    Calls Tryd.prog 51 #[.slice A L.length c, .slice A' M.length c'] w fun e w' => e = .returned (.int .i64 (cmpL L M)) ∧ ∃ n, w' = w.drewN n := by
  generalize hn : L.length = n at *
  generalize hn' : M.length = n' at *
  have HN := Lib.hid hn
  have HN' := Lib.hid hn'
  clear hn hn'
  have HA := Lib.hid hA
  have HA' := Lib.hid hA'
  clear hA hA'
  by_cases hne : n = n'
  · subst hne
    have hdec : ((n : Int) != (n : Int)) = false := by simp
    go_enter Tryd.func51, Tryd.ntmps51
    go_wp2
    go_loopw [5] (fun v wr => ∃ k : Nat, k ≤ n ∧ v = .int .i64 ((k : Int) - 1) ∧ Hid (∃ d, wr = w.drewN d) ∧ Hid (cmpDown L M k = cmpDown L M n)) (fun v _ => (intOf v + 1).toNat)
    case atStart => exact ⟨n, Nat.le_refl _, rfl, ⟨0, rfl⟩, rfl⟩
    case round =>
      obtain ⟨k, hk, rfl, hw, ht⟩ := hrel
      obtain ⟨d, rfl⟩ := hw.out
      rcases Nat.eq_zero_or_pos k with rfl | hpos
      · have hd : decide ((0 : Int) ≤ ((0 : Nat) : Int) - 1) = false := by simp
        go_wp2
        go_ret
        exact ⟨by rw [cmpL, HN.out, HN'.out, if_pos rfl, ← ht.out]; rfl, d, rfl⟩
      · obtain ⟨m, rfl⟩ : ∃ m, k = m + 1 := ⟨k - 1, by omega⟩
        have h1 : ((0 : Int) ≤ ((m + 1 : Nat) : Int) - 1) := by omega
        have hc1 := hcell m (by rw [HN.out]; omega)
        have hc2 := hcell' m (by rw [HN'.out]; omega)
        obtain rfl := HA.out (by omega)
        obtain rfl := HA'.out (by omega)
        have e1 : ((m + 1 : Nat) : Int) - 1 = (m : Int) := by omega
        rw [e1]
        clear e1 h1
        by_cases hz : nth L m = nth M m
        · have hz' : (((nth L m : Nat) : Int) != ((nth M m : Nat) : Int)) = false := by simp [hz]
          go_wp2
          go_quiet (fail)
          go_wp2
          go_roundw
          case rel => exact ⟨m, by omega, rfl, ⟨d + nq, rfl⟩, by have := ht.out; rw [cmpDown, if_pos hz] at this; exact this⟩
          case measure => simp [intOf]
        · have hz' : (((nth L m : Nat) : Int) != ((nth M m : Nat) : Int)) = true := by simp; omega
          go_wp2
          go_quiet (fail)
          go_wp2
          go_quiet ((go_at_call 68; exact quiet_more (same_quiet (cmp_u32 _ _))))
          go_wp2
          go_ret
          exact ⟨ret_int (by rw [cmpL, HN.out, HN'.out, if_pos rfl, ← ht.out, cmpDown, if_neg hz]), _, drew3 _ _ _ _⟩
  · have hdec : ((n : Int) != (n' : Int)) = true := by simp; omega
    go_enter Tryd.func51, Tryd.ntmps51
    go_wp2_with (go_at_call 67; refine (cmp_int _ _ _).mono ?_; rintro e w' ⟨rfl, rfl⟩)
    go_ret
    exact ⟨ret_int (by rw [cmpL, HN.out, HN'.out, if_neg hne]), 0, rfl⟩
end Go.Proofs.YtbfbijokhlkekaaDoor
