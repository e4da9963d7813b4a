/- The loops over limbs as functions on lists, and what they keep. -/
import Derived.Test.YtbfbijokhlkekaaDoorBase
namespace Go.Proofs.YtbfbijokhlkekaaDoor

/-- All numbers of a row are limbs. -/
def Lim (L : List Nat) : Prop := ∀ d ∈ L, d < 1000000000
theorem Lim.nth {L : List Nat} (h : Lim L) (k : Nat) : nth L k < 1000000000 := nth_all h (by omega) k
theorem Lim.set {L : List Nat} (h : Lim L) (i : Nat) {x : Nat} (hx : x < 1000000000) : Lim (L.set i x) := fun d hd => by
  rcases List.mem_or_eq_of_mem_set hd with h1 | h1
  · exact h d h1
  · omega
theorem Lim.take {L : List Nat} (h : Lim L) (n : Nat) : Lim (L.take n) := fun d hd => h d (List.mem_of_mem_take hd)
theorem Lim.drop {L : List Nat} (h : Lim L) (n : Nat) : Lim (L.drop n) := fun d hd => h d (List.mem_of_mem_drop hd)

/-- 'addTo': after k rounds, the row into which B is added from place o on, and the carry. -/
def addSt (o : Nat) (B M : List Nat) : Nat → List Nat × Nat
  | 0 => (M, 0)
  | k + 1 => ((addSt o B M k).1.set (o + k) ((nth (addSt o B M k).1 (o + k) + (addSt o B M k).2 + nth B k) % 1000000000),
      (nth (addSt o B M k).1 (o + k) + (addSt o B M k).2 + nth B k) / 1000000000)
theorem addSt_succ (o : Nat) (B M : List Nat) (k : Nat) : addSt o B M (k + 1) = ((addSt o B M k).1.set (o + k) ((nth (addSt o B M k).1 (o + k) + (addSt o B M k).2 + nth B k) % 1000000000),
      (nth (addSt o B M k).1 (o + k) + (addSt o B M k).2 + nth B k) / 1000000000) := rfl
theorem addSt_ok {o : Nat} {B M : List Nat} (hB : Lim B) (hM : Lim M) (k : Nat) :
    Lim (addSt o B M k).1 ∧ (addSt o B M k).2 ≤ 1 ∧ (addSt o B M k).1.length = M.length := by
  induction k with
  | zero => exact ⟨hM, by simp [addSt], rfl⟩
  | succ k ih =>
    obtain ⟨h1, h2, h3⟩ := ih
    refine ⟨h1.set _ (Nat.mod_lt _ (by omega)), ?_, by simp [addSt, h3]⟩
    have a := h1.nth (o + k)
    have b := hB.nth k
    simp only [addSt]
    omega

/-- 'subtract': after k rounds, the row from which B is taken away, and what was borrowed. -/
def subSt (B M : List Nat) : Nat → List Nat × Nat
  | 0 => (M, 0)
  | k + 1 => if nth (subSt B M k).1 k < (subSt B M k).2 + nth B k
      then ((subSt B M k).1.set k (nth (subSt B M k).1 k + 1000000000 - ((subSt B M k).2 + nth B k)), 1)
      else ((subSt B M k).1.set k (nth (subSt B M k).1 k - ((subSt B M k).2 + nth B k)), 0)
theorem subSt_succ (B M : List Nat) (k : Nat) : subSt B M (k + 1) = if nth (subSt B M k).1 k < (subSt B M k).2 + nth B k
      then ((subSt B M k).1.set k (nth (subSt B M k).1 k + 1000000000 - ((subSt B M k).2 + nth B k)), 1)
      else ((subSt B M k).1.set k (nth (subSt B M k).1 k - ((subSt B M k).2 + nth B k)), 0) := rfl
theorem subSt_ok {B M : List Nat} (hB : Lim B) (hM : Lim M) (k : Nat) :
    Lim (subSt B M k).1 ∧ (subSt B M k).2 ≤ 1 ∧ (subSt B M k).1.length = M.length := by
  induction k with
  | zero => exact ⟨hM, by simp [subSt], rfl⟩
  | succ k ih =>
    obtain ⟨h1, h2, h3⟩ := ih
    have a := h1.nth k
    have b := hB.nth k
    rw [subSt_succ]
    split
    · exact ⟨h1.set _ (by omega), by simp, by simp [h3]⟩
    · exact ⟨h1.set _ (by omega), by simp, by simp [h3]⟩

/-- One round of a product: x times the number j of B is added to place o + j, with a carry. -/
def mulRow (x o : Nat) (B M : List Nat) : Nat → List Nat × Nat
  | 0 => (M, 0)
  | j + 1 => ((mulRow x o B M j).1.set (o + j) ((x * nth B j + nth (mulRow x o B M j).1 (o + j) + (mulRow x o B M j).2) % 1000000000),
      (x * nth B j + nth (mulRow x o B M j).1 (o + j) + (mulRow x o B M j).2) / 1000000000)
theorem mulRow_succ (x o : Nat) (B M : List Nat) (j : Nat) : mulRow x o B M (j + 1) =
    ((mulRow x o B M j).1.set (o + j) ((x * nth B j + nth (mulRow x o B M j).1 (o + j) + (mulRow x o B M j).2) % 1000000000),
      (x * nth B j + nth (mulRow x o B M j).1 (o + j) + (mulRow x o B M j).2) / 1000000000) := rfl
theorem mul_lt_lim {x y : Nat} (hx : x < 1000000000) (hy : y < 1000000000) : x * y ≤ 999999998000000001 := by
  have : x * y ≤ 999999999 * 999999999 := Nat.mul_le_mul (by omega) (by omega)
  omega
theorem mul_lt_limI {x y : Nat} (hx : x < 1000000000) (hy : y < 1000000000) : (x : Int) * (y : Int) ≤ 999999998000000001 := by
  have h := mul_lt_lim hx hy
  have e : ((x * y : Nat) : Int) = (x : Int) * (y : Int) := by simp
  omega
theorem mul_nonnegI (x y : Nat) : 0 ≤ (x : Int) * (y : Int) := by
  have e : ((x * y : Nat) : Int) = (x : Int) * (y : Int) := by simp
  omega
theorem mulRow_ok {x o : Nat} {B M : List Nat} (hx : x < 1000000000) (hB : Lim B) (hM : Lim M) (j : Nat) :
    Lim (mulRow x o B M j).1 ∧ (mulRow x o B M j).2 < 1000000000 ∧ (mulRow x o B M j).1.length = M.length := by
  induction j with
  | zero => exact ⟨hM, by simp [mulRow], rfl⟩
  | succ j ih =>
    obtain ⟨h1, h2, h3⟩ := ih
    have a := h1.nth (o + j)
    have b := mul_lt_lim hx (hB.nth j)
    rw [mulRow_succ]
    exact ⟨h1.set _ (Nat.mod_lt _ (by omega)), by show _ / _ < _; omega, by simp [h3]⟩

/-- A product: after i rounds. -/
def mulSt (A B M : List Nat) : Nat → List Nat
  | 0 => M
  | i + 1 => (mulRow (nth A i) i B (mulSt A B M i) B.length).1.set (i + B.length) (mulRow (nth A i) i B (mulSt A B M i) B.length).2
theorem mulSt_succ (A B M : List Nat) (i : Nat) : mulSt A B M (i + 1) =
    (mulRow (nth A i) i B (mulSt A B M i) B.length).1.set (i + B.length) (mulRow (nth A i) i B (mulSt A B M i) B.length).2 := rfl
theorem mulSt_ok {A B M : List Nat} (hA : Lim A) (hB : Lim B) (hM : Lim M) (i : Nat) : Lim (mulSt A B M i) ∧ (mulSt A B M i).length = M.length := by
  induction i with
  | zero => exact ⟨hM, rfl⟩
  | succ i ih =>
    obtain ⟨a, b, c⟩ := mulRow_ok (o := i) (hA.nth i) hB ih.1 B.length
    rw [mulSt_succ]
    exact ⟨a.set _ b, by simp [c, ih.2]⟩
end Go.Proofs.YtbfbijokhlkekaaDoor
