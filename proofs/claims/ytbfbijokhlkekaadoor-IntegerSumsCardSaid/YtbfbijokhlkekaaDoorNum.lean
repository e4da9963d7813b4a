/- What the loops over limbs come to as numbers. -/
import Derived.Test.YtbfbijokhlkekaaDoorReadNat
namespace Go.Proofs.YtbfbijokhlkekaaDoor

theorem valB_set (b : Nat) : ∀ (L : List Nat) (i v : Nat), i < L.length → valB b (L.set i v) + b ^ i * nth L i = valB b L + b ^ i * v
  | [], i, v, h => by simp at h
  | d :: r, 0, v, _ => by simp [valB, nth]; omega
  | d :: r, i + 1, v, h => by
    have ih := valB_set b r i v (by simpa using h)
    have e : nth (d :: r) (i + 1) = nth r i := by simp [nth]
    simp only [List.set_cons_succ, valB, e, Nat.pow_succ]
    grind
theorem valB_take_succ (b : Nat) (L : List Nat) (k : Nat) (h : k < L.length) : valB b (L.take (k + 1)) = valB b (L.take k) + b ^ k * nth L k := by
  rw [List.take_succ_eq_append_getElem h, valB_append, List.length_take, Nat.min_eq_left (by omega), nth_lt h]
  simp [valB]
theorem valB_take_over (b : Nat) (L : List Nat) (k : Nat) (h : L.length ≤ k) : valB b (L.take k) = valB b L := by rw [List.take_of_length_le h]

theorem mulRow_val {x o : Nat} {B M : List Nat} (ho : o + B.length ≤ M.length) (j : Nat) (hj : j ≤ B.length) (hM : Lim M) (hB : Lim B) (hx : x < 1000000000) :
    valB 1000000000 (mulRow x o B M j).1 + 1000000000 ^ (o + j) * (mulRow x o B M j).2 = valB 1000000000 M + 1000000000 ^ o * (x * valB 1000000000 (B.take j)) := by
  induction j with
  | zero => simp [mulRow, valB]
  | succ j ih =>
    replace ih := ih (by omega)
    have hl := (mulRow_ok (o := o) hx hB hM j).2.2
    rw [mulRow_succ, valB_take_succ _ _ _ (by omega)]
    have hs := valB_set 1000000000 (mulRow x o B M j).1 (o + j) ((x * nth B j + nth (mulRow x o B M j).1 (o + j) + (mulRow x o B M j).2) % 1000000000) (by omega)
    generalize mulRow x o B M j = q at *
    obtain ⟨Q, y⟩ := q
    dsimp only at *
    have ht := Nat.div_add_mod (x * nth B j + nth Q (o + j) + y) 1000000000
    generalize (x * nth B j + nth Q (o + j) + y) % 1000000000 = r at *
    generalize (x * nth B j + nth Q (o + j) + y) / 1000000000 = c at *
    generalize valB 1000000000 (Q.set (o + j) r) = V at *
    generalize valB 1000000000 Q = VQ at *
    generalize valB 1000000000 M = VM at *
    generalize valB 1000000000 (B.take j) = VB at *
    generalize nth B j = bj at *
    generalize nth Q (o + j) = qj at *
    rw [← Nat.add_assoc, Nat.pow_succ]
    have e : (1000000000 : Nat) ^ (o + j) = 1000000000 ^ o * 1000000000 ^ j := Nat.pow_add _ _ _
    rw [e] at hs ih ⊢
    generalize (1000000000 : Nat) ^ o = po at *
    generalize (1000000000 : Nat) ^ j = pj at *
    have h1 : po * pj * (1000000000 * c + r) = po * pj * (x * bj + qj + y) := by rw [ht]
    clear ht e hl hj ho hx hB hM
    grind

/-- Behind the places that were written there are zeros. -/
theorem mulRow_high {x o : Nat} {B M : List Nat} (j k : Nat) (hk : o + j ≤ k) : nth (mulRow x o B M j).1 k = nth M k := by
  induction j with
  | zero => rfl
  | succ j ih => rw [mulRow_succ]; rw [nth_set_ne (by omega)]; exact ih (by omega)
theorem mulSt_val {A B M : List Nat} (hA : Lim A) (hB : Lim B) (hM : Lim M) (hz : ∀ k, nth M k = 0) (hl : M.length = A.length + B.length) (h0 : valB 1000000000 M = 0) (i : Nat) (hi : i ≤ A.length) :
    valB 1000000000 (mulSt A B M i) = valB 1000000000 (A.take i) * valB 1000000000 B ∧ (∀ k, i + B.length ≤ k → nth (mulSt A B M i) k = 0) := by
  induction i with
  | zero => exact ⟨by simp [mulSt, valB, h0], fun k _ => hz k⟩
  | succ i ih =>
    obtain ⟨ih1, ih2⟩ := ih (by omega)
    have hok := mulSt_ok hA hB hM i
    have hr := mulRow_val (x := nth A i) (o := i) (B := B) (M := mulSt A B M i) (by rw [hok.2]; omega) B.length (Nat.le_refl _) hok.1 hB (hA.nth i)
    have hro := mulRow_ok (x := nth A i) (o := i) (hA.nth i) hB hok.1 B.length
    have hh := mulRow_high (x := nth A i) (o := i) (B := B) (M := mulSt A B M i) B.length (i + B.length) (Nat.le_refl _)
    have hh2 := fun k hk => mulRow_high (x := nth A i) (o := i) (B := B) (M := mulSt A B M i) B.length k hk
    rw [ih2 _ (Nat.le_refl _)] at hh
    rw [mulSt_succ, valB_take_succ _ _ _ (by omega)]
    have hs := valB_set 1000000000 (mulRow (nth A i) i B (mulSt A B M i) B.length).1 (i + B.length) (mulRow (nth A i) i B (mulSt A B M i) B.length).2 (by rw [hro.2.2, hok.2]; omega)
    refine ⟨?_, fun k hk => ?_⟩
    · rw [hh] at hs
      rw [List.take_of_length_le (Nat.le_refl _)] at hr
      generalize valB 1000000000 ((mulRow (nth A i) i B (mulSt A B M i) B.length).1.set (i + B.length) (mulRow (nth A i) i B (mulSt A B M i) B.length).2) = V at *
      generalize valB 1000000000 (mulRow (nth A i) i B (mulSt A B M i) B.length).1 = V1 at *
      generalize 1000000000 ^ (i + B.length) * (mulRow (nth A i) i B (mulSt A B M i) B.length).2 = V2 at *
      rw [Nat.mul_zero, Nat.add_zero] at hs
      rw [hs, hr, ih1, Nat.add_mul, Nat.mul_assoc]
    · rw [nth_set_ne (by omega), hh2 k (by omega)]
      exact ih2 k (by omega)
/-- The product of two rows. -/
theorem mul_val {A B : List Nat} (hA : Lim A) (hB : Lim B) : valB 1000000000 (mulSt A B (List.replicate (A.length + B.length) 0) A.length) = valB 1000000000 A * valB 1000000000 B := by
  have := (mulSt_val (M := List.replicate (A.length + B.length) 0) hA hB (fun d hd => by have := (List.mem_replicate.1 hd).2; omega) (nth_zeros _) (by simp) (valB_zeros _ _) A.length (Nat.le_refl _)).1
  rwa [List.take_of_length_le (Nat.le_refl _)] at this

theorem addSt_val {o : Nat} {B M : List Nat} (hB : Lim B) (hM : Lim M) (k : Nat) (hk : o + k ≤ M.length) :
    valB 1000000000 (addSt o B M k).1 + 1000000000 ^ (o + k) * (addSt o B M k).2 = valB 1000000000 M + 1000000000 ^ o * valB 1000000000 (B.take k) := by
  induction k with
  | zero => simp [addSt, valB]
  | succ k ih =>
    replace ih := ih (by omega)
    have hl := (addSt_ok (o := o) hB hM k).2.2
    rw [addSt_succ]
    have hs := valB_set 1000000000 (addSt o B M k).1 (o + k) ((nth (addSt o B M k).1 (o + k) + (addSt o B M k).2 + nth B k) % 1000000000) (by omega)
    have hbt : valB 1000000000 (B.take (k + 1)) = valB 1000000000 (B.take k) + 1000000000 ^ k * nth B k := by
      rcases Nat.lt_or_ge k B.length with h | h
      · exact valB_take_succ _ _ _ h
      · rw [valB_take_over _ _ _ h, valB_take_over _ _ _ (by omega), nth_ge h]; simp
    rw [hbt]
    generalize addSt o B M k = q at *
    obtain ⟨Q, y⟩ := q
    dsimp only at *
    have ht := Nat.div_add_mod (nth Q (o + k) + y + nth B k) 1000000000
    generalize (nth Q (o + k) + y + nth B k) % 1000000000 = r at *
    generalize (nth Q (o + k) + y + nth B k) / 1000000000 = c at *
    generalize valB 1000000000 (Q.set (o + k) r) = V at *
    generalize valB 1000000000 Q = VQ at *
    generalize valB 1000000000 M = VM at *
    generalize valB 1000000000 (B.take k) = VB at *
    generalize nth B k = bj at *
    generalize nth Q (o + k) = qj at *
    rw [← Nat.add_assoc, Nat.pow_succ]
    have e : (1000000000 : Nat) ^ (o + k) = 1000000000 ^ o * 1000000000 ^ k := Nat.pow_add _ _ _
    rw [e] at hs ih ⊢
    generalize (1000000000 : Nat) ^ o = po at *
    generalize (1000000000 : Nat) ^ k = pj at *
    have h1 : po * pj * (1000000000 * c + r) = po * pj * (qj + y + bj) := by rw [ht]
    clear ht e hl hk hB hM hbt
    grind
/-- The difference of two rows, with what was borrowed. -/
theorem subSt_val {B M : List Nat} (hB : Lim B) (hM : Lim M) (k : Nat) (hk : k ≤ M.length) :
    valB 1000000000 (subSt B M k).1 + valB 1000000000 (B.take k) = valB 1000000000 M + 1000000000 ^ k * (subSt B M k).2 := by
  induction k with
  | zero => simp [subSt, valB]
  | succ k ih =>
    replace ih := ih (by omega)
    obtain ⟨h1, h2, hl⟩ := subSt_ok hB hM k
    have a := h1.nth k
    have b := hB.nth k
    rw [subSt_succ]
    have hbt : valB 1000000000 (B.take (k + 1)) = valB 1000000000 (B.take k) + 1000000000 ^ k * nth B k := by
      rcases Nat.lt_or_ge k B.length with h | h
      · exact valB_take_succ _ _ _ h
      · rw [valB_take_over _ _ _ h, valB_take_over _ _ _ (by omega), nth_ge h]; simp
    rw [hbt]
    have hs := fun v => valB_set 1000000000 (subSt B M k).1 k v (by omega)
    generalize subSt B M k = q at *
    obtain ⟨Q, y⟩ := q
    dsimp only at *
    rw [Nat.pow_succ]
    generalize (1000000000 : Nat) ^ k = pj at *
    split
    · rename_i hlt
      have hs' := hs (nth Q k + 1000000000 - (y + nth B k))
      obtain ⟨v, hv⟩ : ∃ v, nth Q k + 1000000000 - (y + nth B k) = v := ⟨_, rfl⟩
      have hv2 : v + (y + nth B k) = nth Q k + 1000000000 := by omega
      rw [hv] at hs' ⊢
      dsimp only
      have h3 : pj * (v + (y + nth B k)) = pj * (nth Q k + 1000000000) := by rw [hv2]
      clear hs hv hv2 hbt hl a b h1 h2 hB hM hk hlt
      grind
    · rename_i hge
      have hs' := hs (nth Q k - (y + nth B k))
      obtain ⟨v, hv⟩ : ∃ v, nth Q k - (y + nth B k) = v := ⟨_, rfl⟩
      have hv2 : v + (y + nth B k) = nth Q k := by omega
      rw [hv] at hs' ⊢
      dsimp only
      have h3 : pj * (v + (y + nth B k)) = pj * nth Q k := by rw [hv2]
      clear hs hv hv2 hbt hl a b h1 h2 hB hM hk hge
      grind
end Go.Proofs.YtbfbijokhlkekaaDoor
