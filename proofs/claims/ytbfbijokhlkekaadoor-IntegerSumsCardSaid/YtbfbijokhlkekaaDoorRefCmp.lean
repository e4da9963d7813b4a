/- The reference's 'compare'. -/
import Derived.Test.YtbfbijokhlkekaaDoorRefSub
namespace Go.Proofs.YtbfbijokhlkekaaDoor
open Go.RowKit

set_option maxRecDepth 20000 in
set_option maxHeartbeats 1600000 in
theorem rcompare_any (A A' : Option Addr) (c c' : Nat) (L M : List Nat) (w : World) (hl : L.length ≤ 1000000) (hm : M.length ≤ 1000000)
    (hR : Row .i64 w w.heap.size A c L) (hR' : Row .i64 w w.heap.size A' c' M) :
    Calls Tryd.prog 54 #[.slice A L.length c, .slice A' M.length c'] w fun e w' => e = .returned (.int .i64 (cmpL L M)) ∧ ∃ n, w' = w.drewN n := by
  generalize hn : L.length = n at *
  generalize hn' : M.length = n' at *
  have HN := Lib.hid hn
  have HN' := Lib.hid hn'
  clear hn hn'
  by_cases hne : n = n'
  · subst hne
    have hdec : ((n : Int) != (n : Int)) = false := by simp
    go_enter Tryd.func54, Tryd.ntmps54
    go_wp2
    go_loopw [5] (fun v wr => ∃ k : Nat, k ≤ n ∧ v = .int .i64 ((k : Int) - 1) ∧ Hid (∃ d, wr = w.drewN d) ∧ Hid (cmpDown L M k = cmpDown L M n)) (fun v _ => (intOf v + 1).toNat)
    case atStart => exact ⟨n, Nat.le_refl _, rfl, ⟨0, rfl⟩, rfl⟩
    case round =>
      obtain ⟨k, hk, rfl, hw, ht⟩ := hrel
      obtain ⟨d, rfl⟩ := hw.out
      rcases Nat.eq_zero_or_pos k with rfl | hpos
      · have hd : decide ((0 : Int) ≤ ((0 : Nat) : Int) - 1) = false := by simp
        go_wp2
        go_ret
        exact ⟨by rw [cmpL, HN.out, HN'.out, if_pos rfl, ← ht.out]; rfl, d, rfl⟩
      · obtain ⟨m, rfl⟩ : ∃ m, k = m + 1 := ⟨k - 1, by omega⟩
        have h1 : ((0 : Int) ≤ ((m + 1 : Nat) : Int) - 1) := by omega
        obtain ⟨b, o, rfl, _, hcell⟩ := hR.spot (by rw [HN.out]; omega)
        obtain ⟨b', o', rfl, _, hcell'⟩ := hR'.spot (by rw [HN'.out]; omega)
        have hc1 := hcell m (by rw [HN.out]; omega)
        have hc2 := hcell' m (by rw [HN'.out]; omega)
        have e1 : ((m + 1 : Nat) : Int) - 1 = (m : Int) := by omega
        rw [e1]
        clear e1 h1 hcell hcell'
        rcases Nat.lt_trichotomy (nth L m) (nth M m) with hz | hz | hz
        · have HZ := Lib.hid hz
          go_wp2
          go_quiet (fail)
          go_wp2
          go_ret
          have hzz := HZ.out
          exact ⟨ret_int (by rw [cmpL, HN.out, HN'.out, if_pos rfl, ← ht.out, cmpDown, if_neg (by omega)]; unfold cmpZ; rw [if_pos hzz]), _, World.drewN_drewN _ _ _⟩
        · have hz1 : ¬ nth L m < nth M m := by omega
          have hz2 : ¬ nth M m < nth L m := by omega
          have HZ := Lib.hid hz
          clear hz
          go_wp2
          go_quiet (fail)
          go_wp2
          go_quiet (fail)
          go_wp2
          go_roundw
          case rel => exact ⟨m, by omega, rfl, ⟨_, rfl⟩, by have := ht.out; rw [cmpDown, if_pos HZ.out] at this; exact this⟩
          case measure => simp [intOf]
        · have hz1 : ¬ nth L m < nth M m := by omega
          have HZ := Lib.hid hz
          go_wp2
          go_quiet (fail)
          go_wp2
          go_quiet (fail)
          go_wp2
          go_ret
          have hzz := HZ.out
          exact ⟨ret_int (by rw [cmpL, HN.out, HN'.out, if_pos rfl, ← ht.out, cmpDown, if_neg (by omega)]; unfold cmpZ; rw [if_neg (by omega), if_neg (by omega)]), _, drew3 _ _ _ _⟩
  · rcases Nat.lt_or_gt_of_ne hne with hlt | hlt
    · have hdec : ((n : Int) != (n' : Int)) = true := by simp; omega
      go_enter Tryd.func54, Tryd.ntmps54
      go_wp2
      go_ret
      exact ⟨ret_int (by rw [cmpL, HN.out, HN'.out, if_neg hne]; unfold cmpZ; rw [if_pos hlt]), 0, rfl⟩
    · have hdec : ((n : Int) != (n' : Int)) = true := by simp; omega
      have hlt2 : ¬ n < n' := by omega
      go_enter Tryd.func54, Tryd.ntmps54
      go_wp2
      go_ret
      exact ⟨ret_int (by rw [cmpL, HN.out, HN'.out, if_neg hne]; unfold cmpZ; rw [if_neg hlt2, if_neg hne]), 0, rfl⟩

theorem canon_lt4 {L M : List Nat} (hL : Lim4 L) (h0 : 0 < M.length → nth M (M.length - 1) ≠ 0) (h : L.length < M.length) : val4 L < val4 M := by
  have h1 := valB_lt hL
  have h2 : (10000 : Nat) ^ L.length ≤ 10000 ^ (M.length - 1) := Nat.pow_le_pow_right (by omega) (by omega)
  have h3 := valB_take_succ 10000 M (M.length - 1) (by omega)
  rw [show M.length - 1 + 1 = M.length by omega, List.take_of_length_le (Nat.le_refl _)] at h3
  have h4 := h0 (by omega)
  have h5 : 10000 ^ (M.length - 1) * 1 ≤ 10000 ^ (M.length - 1) * nth M (M.length - 1) := Nat.mul_le_mul_left _ (by omega)
  unfold val4
  omega
theorem cmpDown_val4 {L M : List Nat} (hL : Lim4 L) (hM : Lim4 M) (n : Nat) (h1 : n ≤ L.length) (h2 : n ≤ M.length) : cmpDown L M n = cmpZ (val4 (L.take n)) (val4 (M.take n)) := by
  induction n with
  | zero => simp [cmpDown, cmpZ, valB]
  | succ n ih =>
    have e1 := valB_take_succ 10000 L n (by omega)
    have e2 := valB_take_succ 10000 M n (by omega)
    have b1 := valB_lt (hL.take n)
    have b2 := valB_lt (hM.take n)
    rw [List.length_take, Nat.min_eq_left (by omega)] at b1 b2
    unfold cmpDown val4
    rw [e1, e2]
    split
    · rename_i h
      rw [ih (by omega) (by omega), h]
      unfold cmpZ val4
      simp
    · rename_i h
      generalize valB 10000 (L.take n) = x at *
      generalize valB 10000 (M.take n) = y at *
      generalize (10000 : Nat) ^ n = p at *
      unfold cmpZ
      rcases Nat.lt_or_gt_of_ne h with h | h
      · rw [if_pos h]
        have : p * (nth L n + 1) ≤ p * nth M n := Nat.mul_le_mul_left _ h
        rw [Nat.mul_add] at this
        rw [if_pos (by omega)]
      · rw [if_neg (by omega), if_neg (by omega)]
        have : p * (nth M n + 1) ≤ p * nth L n := Nat.mul_le_mul_left _ h
        rw [Nat.mul_add] at this
        rw [if_neg (by omega), if_neg (by omega)]
theorem cmpL_val4 {w w' : World} {B B' : Nat} {n m : Bool} {A A' : Option Addr} {c c' : Nat} {L M : List Nat} (hL : RefR w B n A c L) (hM : RefR w' B' m A' c' M) : cmpL L M = cmpZ (val4 L) (val4 M) := by
  unfold cmpL
  split
  · rename_i h
    rw [cmpDown_val4 hL.lim hM.lim _ (Nat.le_refl _) (by omega), List.take_of_length_le (Nat.le_refl _), List.take_of_length_le (by omega)]
  · rename_i h
    rcases Nat.lt_or_gt_of_ne h with h | h
    · have := canon_lt4 hL.lim hM.top h
      unfold cmpZ; rw [if_pos h, if_pos this]
    · have := canon_lt4 hM.lim hL.top h
      unfold cmpZ; rw [if_neg (by omega), if_neg (by omega), if_neg (by omega), if_neg (by omega)]
theorem ref_len {w w' : World} {B B' : Nat} {n m : Bool} {A A' : Option Addr} {c c' : Nat} {L M : List Nat} (hL : RefR w B n A c L) (hM : RefR w' B' m A' c' M) (h : val4 M ≤ val4 L) : M.length ≤ L.length := by
  rcases Nat.lt_or_ge L.length M.length with hlt | hge
  · have := canon_lt4 hL.lim hM.top hlt; omega
  · exact hge
end Go.Proofs.YtbfbijokhlkekaaDoor
