/- Numbers in a base, and decimal texts. -/
import Derived.Test.YtbfbijokhlkekaaDoorBase
import Derived.Lib.ItoaNum
namespace Go.Proofs.YtbfbijokhlkekaaDoor
open Go.Lib (decDigits)

/-- The number with some limbs in base b, the lowest one first. -/
def valB (b : Nat) : List Nat → Nat
  | [] => 0
  | d :: r => d + b * valB b r
theorem valB_append (b : Nat) (l m : List Nat) : valB b (l ++ m) = valB b l + b ^ l.length * valB b m := by
  induction l with
  | nil => simp [valB]
  | cons d r ih =>
    simp only [List.cons_append, valB, ih, List.length_cons, Nat.pow_succ, Nat.mul_add]
    rw [Nat.add_assoc, ← Nat.mul_assoc, Nat.mul_comm (b ^ r.length) b]
theorem valB_lt {b : Nat} {l : List Nat} (h : ∀ d ∈ l, d < b) : valB b l < b ^ l.length := by
  induction l with
  | nil => simp [valB]
  | cons d r ih =>
    have h1 := h d (by simp)
    have h2 := ih fun x hx => h x (by simp [hx])
    simp only [valB, List.length_cons, Nat.pow_succ]
    have h3 : b * (valB b r + 1) ≤ b * b ^ r.length := Nat.mul_le_mul_left b h2
    rw [Nat.mul_add] at h3
    rw [Nat.mul_comm (b ^ r.length)]
    omega
theorem valB_zeros (b n : Nat) : valB b (List.replicate n 0) = 0 := by
  induction n with
  | zero => rfl
  | succ n ih => simp [List.replicate_succ, valB, ih]
theorem valB_drop (b : Nat) (L : List Nat) (k : Nat) (h : k < L.length) : valB b (L.drop k) = nth L k + b * valB b (L.drop (k + 1)) := by
  rw [List.drop_eq_getElem_cons h, valB, nth_lt h]

/-- The last k decimal digits of r. -/
def padk : Nat → Nat → List UInt8
  | 0, _ => []
  | k + 1, r => padk k (r / 10) ++ [UInt8.ofNat (48 + r % 10)]
theorem padk_length (k r : Nat) : (padk k r).length = k := by
  induction k generalizing r with
  | zero => rfl
  | succ k ih => simp [padk, ih]
theorem dec_pad (k q r : Nat) (hq : 0 < q) (hr : r < 10 ^ k) : decDigits (q * 10 ^ k + r) = decDigits q ++ padk k r := by
  induction k generalizing r with
  | zero => simp at hr; subst hr; simp [padk]
  | succ k ih =>
    have e : q * 10 ^ (k + 1) = 10 * (q * 10 ^ k) := by rw [Nat.pow_succ]; rw [← Nat.mul_assoc, Nat.mul_comm]
    have hp : 0 < 10 ^ k := Nat.pow_pos (by omega)
    have hge : 1 ≤ q * 10 ^ k := Nat.mul_pos hq hp
    rw [decDigits, dif_neg (by omega), e]
    have e1 : (10 * (q * 10 ^ k) + r) / 10 = q * 10 ^ k + r / 10 := by omega
    have e2 : (10 * (q * 10 ^ k) + r) % 10 = r % 10 := by omega
    rw [Nat.pow_succ] at hr
    rw [e1, e2, ih (r / 10) (by omega), padk, List.append_assoc]

/-- The digits of the limbs from the highest to the lowest one, p for each. -/
def lowPads (p : Nat) : List Nat → List UInt8
  | [] => []
  | d :: r => lowPads p r ++ padk p d
theorem lowPads_length (p : Nat) (l : List Nat) : (lowPads p l).length = p * l.length := by
  induction l with
  | nil => rfl
  | cons d r ih => simp [lowPads, ih, padk_length, Nat.mul_add]
theorem valB_pos (b : Nat) (l : List Nat) (top : Nat) (ht : 0 < top) (hb : 0 < b) : 0 < valB b (l ++ [top]) := by
  rw [valB_append]
  have : 0 < b ^ l.length * valB b [top] := Nat.mul_pos (Nat.pow_pos hb) (by simp [valB, ht])
  omega
theorem dec_limbs (p : Nat) (l : List Nat) (top : Nat) (ht : 0 < top) (hl : ∀ d ∈ l, d < 10 ^ p) : decDigits (valB (10 ^ p) (l ++ [top])) = decDigits top ++ lowPads p l := by
  induction l with
  | nil => simp [valB, lowPads]
  | cons d r ih =>
    have h1 : d < 10 ^ p := hl d (by simp)
    have h2 := ih fun x hx => hl x (by simp [hx])
    have hv := valB_pos (10 ^ p) r top ht (Nat.pow_pos (by omega))
    simp only [List.cons_append, valB, lowPads]
    rw [Nat.add_comm, Nat.mul_comm, dec_pad p _ d hv h1, h2, List.append_assoc]

/-- The number with some decimal digits. -/
def numOf (l : List UInt8) : Nat := l.foldl (fun n c => 10 * n + (c.toNat - 48)) 0
theorem numOf_snoc (l : List UInt8) (c : UInt8) : numOf (l ++ [c]) = 10 * numOf l + (c.toNat - 48) := by simp [numOf]
def isDig (c : UInt8) : Bool := decide (48 ≤ c.toNat) && decide (c.toNat ≤ 57)
theorem isDig_iff {c : UInt8} : isDig c = true ↔ 48 ≤ c.toNat ∧ c.toNat ≤ 57 := by simp [isDig]
/-- A text of digits, of which the first one is 0 only if it is the only one. -/
def okNum (l : List UInt8) : Bool := l.all isDig && (l == [48] || (l.length != 0 && l.head? != some 48))
theorem numOf_pos {l : List UInt8} (hd : ∀ c ∈ l, isDig c = true) (h0 : l ≠ []) (h : l.head? ≠ some 48) : 0 < numOf l := by
  match l, h0, h, hd with
  | c :: r, _, h, hd =>
    clear h0
    have hc := isDig_iff.1 (hd c (by simp))
    have h48 : c.toNat ≠ 48 := fun e => h (by
      have : c = 48 := by apply UInt8.toNat_inj.1; rw [e]; rfl
      simp [this])
    have key : ∀ (r : List UInt8) (n : Nat), 0 < n → 0 < r.foldl (fun n c => 10 * n + (c.toNat - 48)) n := by
      intro r
      induction r with
      | nil => intro n hn; exact hn
      | cons d s ih => intro n hn; exact ih _ (by show 0 < 10 * n + _; omega)
    exact key r _ (by show 0 < 10 * 0 + _; omega)
theorem dec_small {d : Nat} (h : d < 10) : decDigits d = [UInt8.ofNat (48 + d)] := by rw [decDigits, dif_pos h]
theorem dec_numOf (l : List UInt8) (hd : ∀ c ∈ l, isDig c = true) (h0 : l ≠ []) (h : l = [48] ∨ l.head? ≠ some 48) : decDigits (numOf l) = l := by
  suffices H : ∀ (n : Nat) (l : List UInt8), l.length = n → (∀ c ∈ l, isDig c = true) → l ≠ [] → (l.length = 1 ∨ l.head? ≠ some 48) → decDigits (numOf l) = l by
    refine H _ l rfl hd h0 ?_
    rcases h with h | h
    · left; simp [h]
    · right; exact h
  intro n
  induction n with
  | zero => intro l hl _ h0; exact absurd (List.eq_nil_of_length_eq_zero hl) h0
  | succ n ih =>
    intro l hl hd h0 h
    obtain ⟨i, c, rfl⟩ : ∃ i c, l = i ++ [c] := ⟨l.dropLast, l.getLast h0, (List.dropLast_concat_getLast h0).symm⟩
    have hc := isDig_iff.1 (hd c (by simp))
    have ec : UInt8.ofNat (48 + (c.toNat - 48)) = c := by
      rw [show 48 + (c.toNat - 48) = c.toNat by omega]; simp
    rw [numOf_snoc]
    by_cases hi : i = []
    · subst hi
      show decDigits (10 * 0 + _) = _
      rw [dec_small (by omega), Nat.mul_zero, Nat.zero_add, ec]; rfl
    · have hh : (i ++ [c]).head? = i.head? := by cases i with | nil => exact absurd rfl hi | cons a b => rfl
      have hl1 : (i ++ [c]).length ≠ 1 := by cases i with | nil => exact absurd rfl hi | cons a b => simp
      have h' : i.head? ≠ some 48 := by rcases h with h | h; exact absurd h hl1; rwa [hh] at h
      have hdi : ∀ x ∈ i, isDig x = true := fun x hx => hd x (by simp [hx])
      have hp := numOf_pos hdi hi h'
      have := dec_pad 1 (numOf i) (c.toNat - 48) hp (by omega)
      rw [show 10 * numOf i = numOf i * 10 ^ 1 by omega, this, ih i (by simpa using hl) hdi hi (.inr h')]
      have e2 : (c.toNat - 48) % 10 = c.toNat - 48 := by omega
      simp [padk, e2, ec]
theorem dec_head (n : Nat) (hn : 0 < n) : (decDigits n).head? ≠ some 48 ∧ decDigits n ≠ [] := by
  induction n using Nat.strongRecOn with
  | _ n ih =>
    rw [decDigits]
    split
    · rename_i h
      refine ⟨?_, by simp⟩
      simp only [List.head?_cons, ne_eq, Option.some.injEq]
      intro e
      have := congrArg UInt8.toNat e
      simp at this
      omega
    · rename_i h
      have := ih (n / 10) (by omega) (by omega)
      refine ⟨?_, by simp⟩
      rw [List.head?_append]
      cases hd : (decDigits (n / 10)).head? with
      | none => rw [List.head?_eq_none_iff] at hd; exact absurd hd this.2
      | some x => simp; intro e; subst e; exact this.1 hd
end Go.Proofs.YtbfbijokhlkekaaDoor
