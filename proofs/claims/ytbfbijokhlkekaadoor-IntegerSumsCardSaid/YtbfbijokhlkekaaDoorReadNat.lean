/- The limbs of a text of digits. -/
import Derived.Test.YtbfbijokhlkekaaDoorDec
import Derived.Test.YtbfbijokhlkekaaDoorAddNat
namespace Go.Proofs.YtbfbijokhlkekaaDoor

/-- The digit at place i. -/
def digAt (s : List UInt8) (i : Nat) : Nat := (s.getD i 0).toNat - 48
/-- 'readDigits': after i digits. -/
def rdSt (s : List UInt8) (M : List Nat) : Nat → List Nat
  | 0 => M
  | i + 1 => (rdSt s M i).set ((s.length - 1 - i) / 9) (nth (rdSt s M i) ((s.length - 1 - i) / 9) * 10 + digAt s i)
theorem rdSt_succ (s : List UInt8) (M : List Nat) (i : Nat) : rdSt s M (i + 1) = (rdSt s M i).set ((s.length - 1 - i) / 9) (nth (rdSt s M i) ((s.length - 1 - i) / 9) * 10 + digAt s i) := rfl
theorem nth_set_eq {L : List Nat} {i x : Nat} (h : i < L.length) : nth (L.set i x) i = x := by simp [nth, h]
theorem nth_set_ne {L : List Nat} {i j x : Nat} (h : i ≠ j) : nth (L.set i x) j = nth L j := by simp [nth, List.getElem?_set_ne h]
theorem drop_set_low {L : List Nat} {i k x : Nat} (h : i < k) : (L.set i x).drop k = L.drop k := by rw [List.drop_set]; simp [h]
theorem nth_zeros (n k : Nat) : nth (List.replicate n 0) k = 0 := by
  simp only [nth, List.getD_eq_getElem?_getD, List.getElem?_replicate]
  split <;> simp

/-- What the limbs are while the digits of a text of n ones are read, of which the first i make the number N. -/
structure RdInv (n m i N : Nat) (M : List Nat) : Prop where
  len : M.length = m
  low : ∀ j, j < (n - i) / 9 → nth M j = 0
  cur : nth M ((n - i) / 9) < 10 ^ (9 - (n - i) % 9)
  lim : Lim M
  val : N = valB 1000000000 (M.drop ((n - i) / 9 + 1)) * 10 ^ (9 - (n - i) % 9) + nth M ((n - i) / 9)
theorem digAt_lt {s : List UInt8} {i : Nat} (hd : ∀ c ∈ s, isDig c = true) (hi : i < s.length) : digAt s i < 10 := by
  have := isDig_iff.1 (hd s[i] (List.getElem_mem hi))
  simp only [digAt, List.getD_eq_getElem?_getD, List.getElem?_eq_getElem hi, Option.getD_some]
  omega
theorem numOf_take {s : List UInt8} {i : Nat} (hi : i < s.length) : numOf (s.take (i + 1)) = 10 * numOf (s.take i) + digAt s i := by
  rw [List.take_succ_eq_append_getElem hi, numOf_snoc]
  simp [digAt, hi]
theorem rd_step {n m i N d : Nat} {M : List Nat} (hm : m = (n + 8) / 9) (hi : i < n) (hd : d < 10) (h : RdInv n m i N M) :
    RdInv n m (i + 1) (10 * N + d) (M.set ((n - 1 - i) / 9) (nth M ((n - 1 - i) / 9) * 10 + d)) := by
    obtain ⟨h1, h2, h3, h4, h5⟩ := h
    subst h5
    have hdig := hd
    have eS : n - 1 - i = (n - i) - 1 := by omega
    rw [eS]
    suffices H : ∀ R, R = n - (i + 1) → RdInv n m (n - R) _ (M.set ((n - i - 1) / 9) (nth M ((n - i - 1) / 9) * 10 + d)) by
      have := H _ rfl
      rwa [show n - (n - (i + 1)) = i + 1 by omega] at this
    intro R0 hR0
    have hRR : n - (n - R0) = n - i - 1 := by omega
    have hRn : n - i ≤ n := by omega
    have hR1 : 1 ≤ n - i := by omega
    suffices H : (M.set ((n - i - 1) / 9) (nth M ((n - i - 1) / 9) * 10 + d)).length = m ∧ (∀ j, j < (n - i - 1) / 9 → nth (M.set ((n - i - 1) / 9) (nth M ((n - i - 1) / 9) * 10 + d)) j = 0) ∧
        nth (M.set ((n - i - 1) / 9) (nth M ((n - i - 1) / 9) * 10 + d)) ((n - i - 1) / 9) < 10 ^ (9 - (n - i - 1) % 9) ∧ Lim (M.set ((n - i - 1) / 9) (nth M ((n - i - 1) / 9) * 10 + d)) ∧
        10 * (valB 1000000000 (M.drop ((n - i) / 9 + 1)) * 10 ^ (9 - (n - i) % 9) + nth M ((n - i) / 9)) + d =
          valB 1000000000 ((M.set ((n - i - 1) / 9) (nth M ((n - i - 1) / 9) * 10 + d)).drop ((n - i - 1) / 9 + 1)) * 10 ^ (9 - (n - i - 1) % 9) + nth (M.set ((n - i - 1) / 9) (nth M ((n - i - 1) / 9) * 10 + d)) ((n - i - 1) / 9) by
      exact ⟨H.1, by rw [hRR]; exact H.2.1, by rw [hRR]; exact H.2.2.1, H.2.2.2.1, by rw [hRR]; exact H.2.2.2.2⟩
    clear hRR hR0 R0 eS hi
    generalize n - i = R at *
    by_cases hc : R % 9 = 0
    · obtain ⟨k, rfl⟩ : ∃ k, R = 9 * (k + 1) := ⟨R / 9 - 1, by omega⟩
      have e1 : (9 * (k + 1) - 1) / 9 = k := by omega
      have e2 : (9 * (k + 1) - 1) % 9 = 8 := by omega
      have e3 : 9 * (k + 1) / 9 = k + 1 := by omega
      have e4 : 9 * (k + 1) % 9 = 0 := by omega
      rw [e3] at h2 h3
      rw [e4] at h3
      rw [e1, e2, e3, e4]
      have hz : nth M k = 0 := h2 k (by omega)
      have hk : k < M.length := by omega
      rw [hz]
      refine ⟨by simp [h1], ?_, ?_, ?_, ?_⟩
      · intro j hj; rw [nth_set_ne (by omega)]; exact h2 j (by omega)
      · rw [nth_set_eq hk]; omega
      · exact h4.set _ (by omega)
      · rw [nth_set_eq hk, drop_set_low (by omega)]
        rcases Nat.lt_or_ge (k + 1) M.length with hl | hl
        · rw [valB_drop _ _ _ hl]
          simp only [Nat.sub_zero, Nat.reducePow, Nat.reduceSub]
          omega
        · rw [List.drop_of_length_le (by omega), List.drop_of_length_le hl, nth_ge hl]
          simp [valB]
    · have e1 : (R - 1) / 9 = R / 9 := by omega
      have e2 : (R - 1) % 9 = R % 9 - 1 := by omega
      rw [e1, e2]
      have hk : R / 9 < M.length := by omega
      have e3 : 9 - (R % 9 - 1) = (9 - R % 9) + 1 := by omega
      refine ⟨by simp [h1], ?_, ?_, ?_, ?_⟩
      · intro j hj; rw [nth_set_ne (by omega)]; exact h2 j hj
      · rw [nth_set_eq hk, e3, Nat.pow_succ]; omega
      · have : (10 : Nat) ^ (9 - R % 9) ≤ 10 ^ 8 := Nat.pow_le_pow_right (by omega) (by omega)
        exact h4.set _ (by omega)
      · rw [nth_set_eq hk, drop_set_low (by omega), e3, Nat.pow_succ, ← Nat.mul_assoc, Nat.mul_add]
        generalize valB 1000000000 (M.drop (R / 9 + 1)) * 10 ^ (9 - R % 9) = q
        omega
theorem rd_inv {s : List UInt8} (hd : ∀ c ∈ s, isDig c = true) (i : Nat) (hi : i ≤ s.length) : RdInv s.length ((s.length + 8) / 9) i (numOf (s.take i)) (rdSt s (List.replicate ((s.length + 8) / 9) 0) i) := by
  induction i with
  | zero =>
    refine ⟨by simp [rdSt], fun j _ => nth_zeros _ _, ?_, ?_, ?_⟩
    · rw [rdSt, nth_zeros]; exact Nat.pow_pos (by omega)
    · intro d hd; have := (List.mem_replicate.1 hd).2; omega
    · rw [rdSt, nth_zeros, List.drop_replicate, valB_zeros]; simp [numOf]
  | succ i ih =>
    rw [rdSt_succ, numOf_take (by omega)]
    exact rd_step rfl (by omega) (digAt_lt hd (by omega)) (ih (by omega))
/-- Before digit i: the limb that it goes to has room for it. -/
theorem rd_room {n m i N : Nat} {M : List Nat} (h : RdInv n m i N M) (hm : m = (n + 8) / 9) (hi : i < n) :
    (n - 1 - i) / 9 < m ∧ nth M ((n - 1 - i) / 9) < 100000000 := by
  refine ⟨by omega, ?_⟩
  by_cases hc : (n - i) % 9 = 0
  · rw [h.low _ (by omega)]; omega
  · have e1 : (n - 1 - i) / 9 = (n - i) / 9 := by omega
    rw [e1]
    have : (10 : Nat) ^ (9 - (n - i) % 9) ≤ 10 ^ 8 := Nat.pow_le_pow_right (by omega) (by omega)
    have := h.cur
    omega
theorem rd_end {n m N : Nat} {M : List Nat} (h : RdInv n m n N M) (hm : 0 < m) : valB 1000000000 M = N := by
  have := h.val
  rw [this]
  simp only [Nat.sub_self, Nat.zero_div, Nat.zero_mod, Nat.sub_zero]
  have hv := valB_drop 1000000000 M 0 (by rw [h.len]; exact hm)
  rw [List.drop_zero] at hv
  rw [hv]
  simp only [Nat.reducePow, Nat.zero_add]
  omega

/-- Leaving out the zeros at the end does not change the number, and makes the highest limb no zero. -/
theorem trimN_val (b : Nat) (L : List Nat) (n : Nat) (hn : n ≤ L.length) : valB b (L.take (trimN L n)) = valB b (L.take n) := by
  induction n with
  | zero => simp [trimN]
  | succ n ih =>
    unfold trimN
    split
    · rename_i h
      rw [ih (by omega), List.take_succ_eq_append_getElem (by omega), valB_append, ← nth_lt (by omega), h]
      simp [valB]
    · rfl
theorem trimN_top (L : List Nat) (n : Nat) (h : 0 < trimN L n) : nth L (trimN L n - 1) ≠ 0 := by
  induction n with
  | zero => simp [trimN] at h
  | succ n ih =>
    by_cases h0 : nth L n = 0
    · rw [trimN, if_pos h0] at h ⊢; exact ih h
    · rw [trimN, if_neg h0]; exact h0
theorem nth_take {L : List Nat} {n k : Nat} (h : k < n) : nth (L.take n) k = nth L k := by
  simp only [nth, List.getD_eq_getElem?_getD, List.getElem?_take, h, if_true]
end Go.Proofs.YtbfbijokhlkekaaDoor
