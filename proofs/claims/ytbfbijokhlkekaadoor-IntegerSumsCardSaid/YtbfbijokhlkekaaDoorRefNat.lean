/- The limbs of four digits that the reference reads from a text. -/
import Derived.Test.YtbfbijokhlkekaaDoorParse
namespace Go.Proofs.YtbfbijokhlkekaaDoor

theorem snoc_rec {P : List UInt8 → Prop} (h0 : P []) (h1 : ∀ i c, P i → P (i ++ [c])) (l : List UInt8) : P l := by
  suffices H : ∀ n (l : List UInt8), l.length = n → P l from H _ l rfl
  intro n
  induction n with
  | zero => intro l hl; rw [List.eq_nil_of_length_eq_zero hl]; exact h0
  | succ n ih =>
    intro l hl
    have hne : l ≠ [] := by rintro rfl; simp at hl
    rw [← List.dropLast_concat_getLast hne]
    exact h1 _ _ (ih _ (by simp [hl]))
theorem numOf_append (a b : List UInt8) : numOf (a ++ b) = numOf a * 10 ^ b.length + numOf b := by
  refine snoc_rec (P := fun b => numOf (a ++ b) = numOf a * 10 ^ b.length + numOf b) (by simp [numOf]) (fun i c ih => ?_) b
  · rw [← List.append_assoc, numOf_snoc, numOf_snoc, ih, List.length_append, List.length_singleton, Nat.pow_succ, Nat.mul_add, ← Nat.mul_assoc (numOf a), Nat.mul_comm 10 (numOf a * _)]
    omega
theorem numOf_lt {l : List UInt8} (hd : ∀ c ∈ l, isDig c = true) : numOf l < 10 ^ l.length := by
  revert hd
  refine snoc_rec (P := fun l => (∀ c ∈ l, isDig c = true) → numOf l < 10 ^ l.length) (fun _ => by simp [numOf]) (fun i c ih hd => ?_) l
  · have h1 := ih fun x hx => hd x (by simp [hx])
    have h2 := isDig_iff.1 (hd c (by simp))
    rw [numOf_snoc, List.length_append, List.length_singleton, Nat.pow_succ]
    omega
/-- The digits from place a to place b, which is not among them. -/
def seg (D : List UInt8) (a b : Nat) : List UInt8 := (D.take b).drop a
theorem seg_succ {D : List UInt8} {a k : Nat} (ha : a ≤ k) (hk : k < D.length) : numOf (seg D a (k + 1)) = 10 * numOf (seg D a k) + digAt D k := by
  unfold seg
  rw [List.take_succ_eq_append_getElem hk, List.drop_append_of_le_length (by rw [List.length_take]; omega), numOf_snoc]
  simp [digAt, hk]
theorem seg_self (D : List UInt8) (a : Nat) : numOf (seg D a a) = 0 := by
  unfold seg
  rw [List.drop_of_length_le (by rw [List.length_take]; omega)]; rfl
theorem seg_dig {D : List UInt8} (hd : ∀ c ∈ D, isDig c = true) (a b : Nat) : ∀ c ∈ seg D a b, isDig c = true := fun c hc => hd c (List.mem_of_mem_take (List.mem_of_mem_drop hc))
theorem seg_lt {D : List UInt8} (hd : ∀ c ∈ D, isDig c = true) {a b : Nat} (h : b ≤ a + 4) : numOf (seg D a b) < 10000 := by
  have h1 := numOf_lt (seg_dig hd a b)
  have h2 : (seg D a b).length ≤ 4 := by unfold seg; rw [List.length_drop, List.length_take]; omega
  have h3 : (10 : Nat) ^ (seg D a b).length ≤ 10 ^ 4 := Nat.pow_le_pow_right (by omega) h2
  omega
/-- The lowest j limbs. -/
def chunks (D : List UInt8) : Nat → List Nat
  | 0 => []
  | j + 1 => chunks D j ++ [numOf (seg D (D.length - 4 * j - 4) (D.length - 4 * j))]
theorem chunks_len (D : List UInt8) (j : Nat) : (chunks D j).length = j := by
  induction j with
  | zero => rfl
  | succ j ih => simp [chunks, ih]
theorem chunks_lim {D : List UInt8} (hd : ∀ c ∈ D, isDig c = true) (j : Nat) : ∀ d ∈ chunks D j, d < 10000 := by
  induction j with
  | zero => intro d h; cases h
  | succ j ih =>
    intro d h
    rcases List.mem_append.1 h with h | h
    · exact ih d h
    · rw [List.mem_singleton] at h; subst h; exact seg_lt hd (by omega)
theorem chunks_val (D : List UInt8) (j : Nat) : numOf D = valB 10000 (chunks D j) + 10000 ^ j * numOf (D.take (D.length - 4 * j)) := by
  induction j with
  | zero => simp [chunks, valB]
  | succ j ih =>
    rw [ih, chunks, valB_append, chunks_len, Nat.pow_succ]
    have h4 : D.length - 4 * (j + 1) = D.length - 4 * j - 4 := by omega
    rw [h4]
    have hnl : D.length - 4 * j ≤ D.length := by omega
    generalize D.length - 4 * j = n at *
    have hs : numOf (D.take n) = numOf (D.take (n - 4)) * 10000 + numOf (seg D (n - 4) n) := by
      have e : D.take n = D.take (n - 4) ++ seg D (n - 4) n := by
        unfold seg
        have := (List.take_append_drop (n - 4) (D.take n)).symm
        rw [List.take_take, Nat.min_eq_left (by omega)] at this
        exact this
      rw [e, numOf_append]
      by_cases hn : 4 ≤ n
      · have : (seg D (n - 4) n).length = 4 := by unfold seg; rw [List.length_drop, List.length_take]; omega
        rw [this]
      · have h0 : n - 4 = 0 := by omega
        rw [h0]; simp [numOf]
    rw [hs]
    simp only [valB, Nat.mul_zero, Nat.add_zero, Nat.mul_add]
    rw [Nat.mul_comm (numOf (List.take (n - 4) D)) 10000, ← Nat.mul_assoc]
    omega
end Go.Proofs.YtbfbijokhlkekaaDoor
