/- Sums and differences of limbs of four digits. -/
import Derived.Test.YtbfbijokhlkekaaDoorRefMul
namespace Go.Proofs.YtbfbijokhlkekaaDoor

/-- The reference's 'add': after k rounds, the limbs and the carry. -/
def raSt (A B : List Nat) : Nat → List Nat × Nat
  | 0 => ([], 0)
  | k + 1 => ((raSt A B k).1 ++ [((raSt A B k).2 + nth A k + nth B k) % 10000], ((raSt A B k).2 + nth A k + nth B k) / 10000)
theorem raSt_succ (A B : List Nat) (k : Nat) : raSt A B (k + 1) = ((raSt A B k).1 ++ [((raSt A B k).2 + nth A k + nth B k) % 10000], ((raSt A B k).2 + nth A k + nth B k) / 10000) := rfl
theorem raSt_ok {A B : List Nat} (hA : Lim4 A) (hB : Lim4 B) (k : Nat) : Lim4 (raSt A B k).1 ∧ (raSt A B k).2 ≤ 1 ∧ (raSt A B k).1.length = k := by
  induction k with
  | zero => exact ⟨fun _ h => absurd h (List.not_mem_nil), by simp [raSt], rfl⟩
  | succ k ih =>
    obtain ⟨h1, h2, h3⟩ := ih
    have a := hA.nth k
    have b := hB.nth k
    rw [raSt_succ]
    refine ⟨fun d hd => ?_, by show _ / _ ≤ _; omega, by simp [h3]⟩
    rcases List.mem_append.1 hd with h | h
    · exact h1 d h
    · rw [List.mem_singleton] at h; subst h; exact Nat.mod_lt _ (by omega)
theorem take_val (b : Nat) (B : List Nat) (k : Nat) : valB b (B.take (k + 1)) = valB b (B.take k) + b ^ k * nth B k := by
  rcases Nat.lt_or_ge k B.length with h | h
  · exact valB_take_succ _ _ _ h
  · rw [valB_take_over _ _ _ h, valB_take_over _ _ _ (by omega), nth_ge h]; simp
theorem raSt_val {A B : List Nat} (hA : Lim4 A) (hB : Lim4 B) (k : Nat) : valB 10000 (raSt A B k).1 + 10000 ^ k * (raSt A B k).2 = valB 10000 (A.take k) + valB 10000 (B.take k) := by
  induction k with
  | zero => simp [raSt, valB]
  | succ k ih =>
    have hl := (raSt_ok hA hB k).2.2
    rw [raSt_succ, take_val, take_val]
    dsimp only
    rw [valB_append, hl]
    generalize raSt A B k = q at *
    obtain ⟨Q, y⟩ := q
    dsimp only at *
    have ht := Nat.div_add_mod (y + nth A k + nth B k) 10000
    generalize (y + nth A k + nth B k) % 10000 = r at *
    generalize (y + nth A k + nth B k) / 10000 = c at *
    simp only [valB, Nat.mul_zero, Nat.add_zero]
    rw [Nat.pow_succ]
    generalize (10000 : Nat) ^ k = p at *
    have h1 : p * (10000 * c + r) = p * (y + nth A k + nth B k) := by rw [ht]
    clear ht hl hA hB
    grind

/-- The reference's 'sub': after k rounds, the limbs and what was borrowed. -/
def rsSt (A B : List Nat) : Nat → List Nat × Nat
  | 0 => ([], 0)
  | k + 1 => if nth A k < (rsSt A B k).2 + nth B k
      then ((rsSt A B k).1 ++ [nth A k + 10000 - ((rsSt A B k).2 + nth B k)], 1)
      else ((rsSt A B k).1 ++ [nth A k - ((rsSt A B k).2 + nth B k)], 0)
theorem rsSt_succ (A B : List Nat) (k : Nat) : rsSt A B (k + 1) = if nth A k < (rsSt A B k).2 + nth B k
      then ((rsSt A B k).1 ++ [nth A k + 10000 - ((rsSt A B k).2 + nth B k)], 1)
      else ((rsSt A B k).1 ++ [nth A k - ((rsSt A B k).2 + nth B k)], 0) := rfl
theorem rsSt_ok {A B : List Nat} (hA : Lim4 A) (hB : Lim4 B) (k : Nat) : Lim4 (rsSt A B k).1 ∧ (rsSt A B k).2 ≤ 1 ∧ (rsSt A B k).1.length = k := by
  induction k with
  | zero => exact ⟨fun _ h => absurd h (List.not_mem_nil), by simp [rsSt], rfl⟩
  | succ k ih =>
    obtain ⟨h1, h2, h3⟩ := ih
    have a := hA.nth k
    have b := hB.nth k
    rw [rsSt_succ]
    split
    · refine ⟨fun d hd => ?_, by simp, by simp [h3]⟩
      rcases List.mem_append.1 hd with h | h
      · exact h1 d h
      · rw [List.mem_singleton] at h; omega
    · refine ⟨fun d hd => ?_, by simp, by simp [h3]⟩
      rcases List.mem_append.1 hd with h | h
      · exact h1 d h
      · rw [List.mem_singleton] at h; omega
theorem rsSt_val {A B : List Nat} (hA : Lim4 A) (hB : Lim4 B) (k : Nat) : valB 10000 (rsSt A B k).1 + valB 10000 (B.take k) = valB 10000 (A.take k) + 10000 ^ k * (rsSt A B k).2 := by
  induction k with
  | zero => simp [rsSt, valB]
  | succ k ih =>
    obtain ⟨h1, h2, hl⟩ := rsSt_ok hA hB k
    have b := hB.nth k
    rw [rsSt_succ, take_val, take_val]
    generalize rsSt A B k = q at *
    obtain ⟨Q, y⟩ := q
    dsimp only at *
    rw [Nat.pow_succ]
    split
    · rename_i hlt
      dsimp only
      rw [valB_append, hl]
      simp only [valB, Nat.mul_zero, Nat.add_zero]
      obtain ⟨v, hv⟩ : ∃ v, nth A k + 10000 - (y + nth B k) = v := ⟨_, rfl⟩
      have hv2 : v + (y + nth B k) = nth A k + 10000 := by omega
      rw [hv]
      generalize (10000 : Nat) ^ k = p at *
      have h3 : p * (v + (y + nth B k)) = p * (nth A k + 10000) := by rw [hv2]
      clear hv hv2 hl h1 h2 hA hB b hlt
      grind
    · rename_i hge
      dsimp only
      rw [valB_append, hl]
      simp only [valB, Nat.mul_zero, Nat.add_zero]
      obtain ⟨v, hv⟩ : ∃ v, nth A k - (y + nth B k) = v := ⟨_, rfl⟩
      have hv2 : v + (y + nth B k) = nth A k := by omega
      rw [hv]
      generalize (10000 : Nat) ^ k = p at *
      have h3 : p * (v + (y + nth B k)) = p * nth A k := by rw [hv2]
      clear hv hv2 hl h1 h2 hA hB b hge
      grind
end Go.Proofs.YtbfbijokhlkekaaDoor
