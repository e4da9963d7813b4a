/- Contracts of the functions that the statements reach, part 1: what was proved of each, callees first. -/
import Derived.Sort.LotA
import Derived.Test.YtocojbkhdijjeaaProg
import Derived.WalkKit
import Derived.WalkSpells
import Derived.Lib.Hide
import Derived.Deep.QuietTactic
import Derived.BigQuiet
import Derived.Deep.Draws
import Derived.Laws.Rows
import Derived.Laws.CopyOwn
import Derived.Deep.OwnRows
import Derived.Outline
import Derived.Shelf.SlSortCmp.Kit1
import Derived.Sort.WalkB2
import Derived.Sort.WalkB12
import Derived.Deep.LoopGhost
import Derived.BigRegion
import Derived.Shelf.SlSortCmp.QuietGrown
import Derived.Deep.CutRange
import Derived.Shelf.Small.Wraps
import Derived.Shelf.Bits.Mul64
import Derived.Ground.SlsfProg
import Derived.Shelf.SlSortCmp.Insertion
import Derived.Shelf.SlSortCmp.Insertion1
import Derived.Laws.AppendOwnNone
import Derived.OwnWalk
import Derived.Maps.AppendAt
import Derived.Lib.AppendIntMem
namespace Go.Proofs.Ytocojbkhdijjeaa
open Go.Sort
section
variable {α : Type} {lt : α → α → Bool} {idx : α → Nat}
def tl (lt : α → α → Bool) (idx : α → Nat) (x y : α) : Bool := lt x y || (!lt y x && decide (idx x < idx y))
theorem tl_true {x y : α} : tl lt idx x y = true ↔ lt x y = true ∨ (lt y x = false ∧ idx x < idx y) := by simp [tl]
theorem tl_false {x y : α} : tl lt idx x y = false ↔ lt x y = false ∧ (lt y x = true ∨ idx y ≤ idx x) := by
 rw [← Bool.not_eq_true, tl_true]
 cases lt x y <;> cases lt y x <;> simp
theorem tl_swo (h : SWO lt) : SWO (tl lt idx) where
 irrefl x := by rw [tl_false]; exact ⟨h.irrefl x, .inr (Nat.le_refl _)⟩
 trans x y z h1 h2 := by
  rw [tl_true] at *
  have key : ∀ a b c : α, lt a b = true → lt c b = false → lt a c = true := fun a b c hab hcb => by
   cases hac : lt a c with
   | true => rfl
   | false => rw [h.ntrans a c b hac hcb] at hab; cases hab
  have key2 : ∀ a b c : α, lt b a = false → lt b c = true → lt a c = true := fun a b c hba hbc => by
   cases hac : lt a c with
   | true => rfl
   | false => rw [h.ntrans b a c hba hac] at hbc; cases hbc
  rcases h1 with h1 | ⟨h1, h1'⟩ <;> rcases h2 with h2 | ⟨h2, h2'⟩
  ·exact .inl (h.trans x y z h1 h2)
  ·exact .inl (key x y z h1 h2)
  ·exact .inl (key2 x y z h1 h2)
  ·exact .inr ⟨h.ntrans z y x h2 h1, by omega⟩
 ntrans x y z h1 h2 := by
  rw [tl_false] at *
  refine ⟨h.ntrans x y z h1.1 h2.1, ?_⟩
  cases hzx : lt z x with
  | true => exact .inl rfl
  | false =>
   right
   have a1 : lt y x = false := by
    cases hyx : lt y x with
    | false => rfl
    | true =>
     have := h.ntrans z x y hzx h1.1
     rcases h2.2 with h3 | h3
     ·rw [h3] at this; cases this
     ·have := h.ntrans y z x h2.1 hzx; rw [hyx] at this; cases this
   have a2 : lt z y = false := h.ntrans z x y hzx h1.1
   rw [a1] at h1; rw [a2] at h2
   have b1 := h1.2.resolve_left (by simp)
   have b2 := h2.2.resolve_left (by simp)
   omega
theorem tl_of {x y : α} (h : idx x < idx y) : tl lt idx y x = lt y x := by
 unfold tl
 rw [decide_eq_false (by omega), Bool.and_false, Bool.or_false]
end
section
variable {α : Type} [Inhabited α] {lt : α → α → Bool} {idx : α → Nat}
theorem insInner_size (a : Nat) : ∀ (j : Nat) (d : Array α), (insInner lt a j d).size = d.size
 | 0, d => by unfold insInner; rfl
 | j + 1, d => by
  unfold insInner
  split
  ·rw [insInner_size a j, size_swp]
  ·rfl
theorem insInner_all (a : Nat) (p : α → Prop) : ∀ (j : Nat) (d : Array α), j < d.size → (∀ q, a ≤ q → q ≤ j → p d[q]!) → (∀ q, a ≤ q → q ≤ j → p (insInner lt a j d)[q]!) ∧ ∀ q, j < q → (insInner lt a j d)[q]! = d[q]!
 | 0, d, _, h => by unfold insInner; exact ⟨h, fun _ _ => rfl⟩
 | j + 1, d, hj, h => by
  unfold insInner
  split
  ·rename_i hc
   have hc : a < j + 1 := by simp at hc; omega
   have g := swp_get d hj (show j < d.size by omega)
   have ih := insInner_all a p j (swp d (j + 1) j) (by rw [size_swp]; omega) (fun q h1 h2 => by
    rw [g]
    by_cases e : q = j
    ·rw [if_pos e]; exact h _ (by omega) (by omega)
    ·rw [if_neg e, if_neg (by omega)]; exact h q h1 (by omega))
   refine ⟨fun q h1 h2 => ?_, fun q hq => ?_⟩
   ·by_cases e : q = j + 1
    ·subst e
     rw [ih.2 (j + 1) (by omega), g, if_neg (by omega), if_pos rfl]
     exact h j (by omega) (by omega)
    ·exact ih.1 q h1 (by omega)
   ·rw [ih.2 q (by omega), g, if_neg (by omega), if_neg (by omega)]
  ·exact ⟨h, fun _ _ => rfl⟩
theorem insInner_tl (a : Nat) : ∀ (j : Nat) (d : Array α), j < d.size → (∀ q, a ≤ q → q < j → idx d[q]! < idx d[j]!) → insInner lt a j d = insInner (tl lt idx) a j d
 | 0, d, _, _ => by unfold insInner; rfl
 | j + 1, d, hj, h => by
  unfold insInner
  by_cases ha : j + 1 > a
  ·rw [tl_of (h j (by omega) (by omega))]
   split
   ·have g := swp_get d hj (show j < d.size by omega)
    refine insInner_tl a j _ (by rw [size_swp]; omega) fun q h1 h2 => ?_
    rw [g, g, if_neg (by omega), if_neg (by omega), if_pos rfl]
    exact h q h1 (by omega)
   ·rfl
  ·simp only [ha, decide_false, Bool.false_and, Bool.false_eq_true, if_false]
theorem insOuter_tl (a b : Nat) : ∀ (n i : Nat) (d : Array α), b - i = n → a ≤ i → b ≤ d.size → (∀ p q, a ≤ p → p < i → i ≤ q → q < b → idx d[p]! < idx d[q]!) → (∀ p q, i ≤ p → p < q → q < b → idx d[p]! < idx d[q]!) → insOuter lt a b i d = insOuter (tl lt idx) a b i d
 | 0, i, d, hn, _, _, _, _ => by
  have e1 : insOuter lt a b i d = d := by rw [insOuter, if_neg (by omega)]
  have e2 : insOuter (tl lt idx) a b i d = d := by rw [insOuter, if_neg (by omega)]
  rw [e1, e2]
 | n + 1, i, d, hn, hai, hb, h1, h2 => by
  have hib : i < b := by omega
  have e1 : insOuter lt a b i d = insOuter lt a b (i + 1) (insInner lt a i d) := by rw [insOuter, if_pos hib]
  have e2 : insOuter (tl lt idx) a b i d = insOuter (tl lt idx) a b (i + 1) (insInner (tl lt idx) a i d) := by rw [insOuter, if_pos hib]
  rw [e1, e2, ← insInner_tl a i d (by omega) (fun q h3 h4 => h1 q i h3 h4 (Nat.le_refl _) hib)]
  have hall := insInner_all (lt := lt) a (fun x => ∀ q, i < q → q < b → idx x < idx d[q]!) i d (by omega) (fun p hp hpi q hq hqb => by
   by_cases e : p = i
   ·subst e; exact h2 p q (Nat.le_refl _) hq hqb
   ·exact h1 p q hp (by omega) (by omega) hqb)
  refine insOuter_tl a b n (i + 1) _ (by omega) (by omega) (by rw [insInner_size]; exact hb) (fun p q hp hpi hq hqb => ?_) fun p q hp hpq hqb => ?_
  ·rw [hall.2 q (by omega)]; exact hall.1 p hp (by omega) q (by omega) hqb
  ·rw [hall.2 p (by omega), hall.2 q (by omega)]; exact h2 p q (by omega) hpq hqb
theorem ins_tl (hS : SWO lt) (d : Array α) (a b : Nat) (hab : a ≤ b) (hb : b ≤ d.size) (h : ∀ p q, a ≤ p → p < q → q < b → idx d[p]! < idx d[q]!) :
  PermIn a b d (insertionSort lt d a b) ∧ SortedIn (tl lt idx) a b (insertionSort lt d a b) := by
 have e : insertionSort lt d a b = insertionSort (tl lt idx) d a b := by
  unfold insertionSort
  exact insOuter_tl a b _ (a + 1) d rfl (by omega) hb (fun p q h1 h2 h3 h4 => h p q h1 (by omega) h4) (fun p q h1 h2 h3 => h p q (by omega) h2 h3)
 rw [e]
 exact insertionSort_holds (tl_swo hS) d a b hab hb

/-! ### Merging -/
def movedUp (d d' : Array α) (p q : Nat) : Prop := ∀ k, d'[k]! = if k < p then d[k]! else if k < q then d[k + 1]! else if k = q then d[p]! else d[k]!
theorem movedUp.refl (d : Array α) (p : Nat) : movedUp d d p p := fun k => by
 by_cases h1 : k < p
 ·rw [if_pos h1]
 ·rw [if_neg h1, if_neg h1]
  by_cases h2 : k = p
  ·rw [if_pos h2, h2]
  ·rw [if_neg h2]
theorem movedUp.next {d d' : Array α} {p q : Nat} (h : movedUp d d' p q) (hpq : p ≤ q) (hs : d'.size = d.size) (hq : q + 1 < d.size) : movedUp d (swp d' q (q + 1)) p (q + 1) := fun k => by
 rw [swp_get d' (by omega) (by omega)]
 by_cases h1 : k = q + 1
 ·subst h1
  rw [if_pos rfl, h q, if_neg (by omega), if_neg (by omega), if_pos rfl, if_neg (by omega), if_neg (by omega), if_pos rfl]
 ·rw [if_neg h1]
  by_cases h2 : k = q
  ·subst h2
   rw [if_pos rfl, h (k + 1), if_neg (by omega), if_neg (by omega), if_neg (by omega), if_neg (by omega), if_pos (by omega)]
  ·rw [if_neg h2, h k]
   by_cases h3 : k < p
   ·rw [if_pos h3, if_pos h3]
   ·rw [if_neg h3, if_neg h3]
    by_cases h4 : k < q
    ·rw [if_pos h4, if_pos (by omega)]
    ·rw [if_neg h4, if_neg h2, if_neg (by omega), if_neg h1]
def movedDown (d d' : Array α) (p q : Nat) : Prop := ∀ k, d'[k]! = if k < p then d[k]! else if k = p then d[q]! else if k ≤ q then d[k - 1]! else d[k]!
theorem movedDown.refl (d : Array α) (q : Nat) : movedDown d d q q := fun k => by
 by_cases h1 : k < q
 ·rw [if_pos h1]
 ·rw [if_neg h1]
  by_cases h2 : k = q
  ·rw [if_pos h2, h2]
  ·rw [if_neg h2, if_neg (by omega)]
theorem movedDown.next {d d' : Array α} {p q : Nat} (h : movedDown d d' (p + 1) q) (hpq : p + 1 ≤ q) (hs : d'.size = d.size) (hq : q < d.size) : movedDown d (swp d' (p + 1) p) p q := fun k => by
 rw [swp_get d' (by omega) (by omega)]
 by_cases h1 : k = p
 ·subst h1
  rw [if_pos rfl, h (k + 1), if_neg (by omega), if_pos rfl, if_neg (by omega), if_pos rfl]
 ·rw [if_neg h1]
  by_cases h2 : k = p + 1
  ·subst h2
   rw [if_pos rfl, h p, if_pos (by omega), if_neg (by omega), if_neg (by omega), if_pos (by omega)]
   rfl
  ·rw [if_neg h2, h k]
   by_cases h3 : k < p
   ·rw [if_pos h3, if_pos (by omega)]
   ·rw [if_neg h3, if_neg (by omega), if_neg h2, if_neg h1]
theorem mrg_up (hS : SWO lt) {d d' : Array α} {a b i : Nat} (hai : a < i) (hib : i ≤ b) (hs : SortedIn lt (a + 1) b d) (h1 : i = a + 1 ∨ lt d[i - 1]! d[a]! = true) (h2 : i = b ∨ lt d[i]! d[a]! = false) (hm : movedUp d d' a (i - 1)) : SortedIn lt a b d' := by
 intro p q hap hpq hqb
 have hx : ∀ k, a < k → k < i → lt d[k]! d[a]! = true := fun k hk hki => by
  rcases h1 with h1 | h1
  ·omega
  ·by_cases e : k = i - 1
   ·subst e; exact h1
   ·have h3 := hs k (i - 1) (by omega) (by omega) (by omega)
    cases hc : lt d[k]! d[a]! with
    | true => rfl
    | false => rw [hS.ntrans _ _ _ h3 hc] at h1; cases h1
 have hy : ∀ k, i ≤ k → k < b → lt d[k]! d[a]! = false := fun k hk hkb => by
  rcases h2 with h2 | h2
  ·omega
  ·by_cases e : k = i
   ·subst e; exact h2
   ·exact hS.ntrans _ _ _ (hs i k (by omega) (by omega) hkb) h2
 rw [hm p, hm q, if_neg (show ¬ p < a by omega), if_neg (show ¬ q < a by omega)]
 by_cases c1 : q < i - 1
 ·rw [if_pos c1, if_pos (by omega)]; exact hs _ _ (by omega) (by omega) (by omega)
 ·rw [if_neg c1]
  by_cases c2 : q = i - 1
  ·rw [if_pos c2, if_pos (by omega)]
   exact hS.asymmA (hx (p + 1) (by omega) (by omega))
  ·rw [if_neg c2]
   by_cases c3 : p < i - 1
   ·rw [if_pos c3]; exact hs _ _ (by omega) (by omega) hqb
   ·rw [if_neg c3]
    by_cases c4 : p = i - 1
    ·rw [if_pos c4]; exact hy q (by omega) hqb
    ·rw [if_neg c4]; exact hs _ _ (by omega) hpq hqb
theorem mrg_down (hS : SWO lt) {d d' : Array α} {a m i : Nat} (hai : a ≤ i) (him : i ≤ m) (hs : SortedIn lt a m d) (h1 : i = a ∨ lt d[m]! d[i - 1]! = false) (h2 : i = m ∨ lt d[m]! d[i]! = true) (hm : movedDown d d' i m) : SortedIn lt a (m + 1) d' := by
 intro p q hap hpq hqb
 have hx : ∀ k, a ≤ k → k < i → lt d[m]! d[k]! = false := fun k hk hki => by
  rcases h1 with h1 | h1
  ·omega
  ·by_cases e : k = i - 1
   ·subst e; exact h1
   ·exact hS.ntrans _ _ _ h1 (hs k (i - 1) (by omega) (by omega) (by omega))
 have hy : ∀ k, i ≤ k → k < m → lt d[m]! d[k]! = true := fun k hk hkb => by
  rcases h2 with h2 | h2
  ·omega
  ·by_cases e : k = i
   ·subst e; exact h2
   ·have h3 := hs i k hai (by omega) hkb
    cases hc : lt d[m]! d[k]! with
    | true => rfl
    | false => rw [hS.ntrans _ _ _ hc h3] at h2; cases h2
 rw [hm p, hm q]
 by_cases c1 : q < i
 ·rw [if_pos c1, if_pos (by omega)]; exact hs _ _ (by omega) (by omega) (by omega)
 ·rw [if_neg c1]
  by_cases c2 : q = i
  ·rw [if_pos c2, if_pos (by omega)]
   exact hx p (by omega) (by omega)
  ·rw [if_neg c2, if_pos (by omega)]
   by_cases c3 : p < i
   ·rw [if_pos c3]; exact hs _ _ (by omega) (by omega) (by omega)
   ·rw [if_neg c3]
    by_cases c4 : p = i
    ·rw [if_pos c4]; exact hS.asymmA (hy (q - 1) (by omega) (by omega))
    ·rw [if_neg c4, if_pos (by omega)]; exact hs _ _ (by omega) (by omega) (by omega)
def rotated (d d' : Array α) (s m e : Nat) : Prop := ∀ k, d'[k]! = if k < s then d[k]! else if k < s + (e - m) then d[m + (k - s)]! else if k < e then d[s + (k - (s + (e - m)))]! else d[k]!
theorem rotated.none {d : Array α} {s m e : Nat} (h1 : s ≤ m) (h2 : m ≤ e) (h : s = m ∨ m = e) : rotated d d s m e := fun k => by
 by_cases c1 : k < s
 ·rw [if_pos c1]
 ·rw [if_neg c1]
  by_cases c2 : k < s + (e - m)
  ·rw [if_pos c2, show m + (k - s) = k by omega]
  ·rw [if_neg c2]
   by_cases c3 : k < e
   ·rw [if_pos c3, show s + (k - (s + (e - m))) = k by omega]
   ·rw [if_neg c3]
def swapped (d d' : Array α) (p q i : Nat) : Prop := ∀ k, d'[k]! = if p ≤ k ∧ k < p + i then d[q + (k - p)]! else if q ≤ k ∧ k < q + i then d[p + (k - q)]! else d[k]!
theorem swapped.refl (d : Array α) (p q : Nat) : swapped d d p q 0 := fun k => by rw [if_neg (by omega), if_neg (by omega)]
theorem swapped.next {d d' : Array α} {p q i : Nat} (h : swapped d d' p q i) (hpq : p + (i + 1) ≤ q) (hs : d'.size = d.size) (hq : q + i < d.size) : swapped d (swp d' (p + i) (q + i)) p q (i + 1) := fun k => by
 rw [swp_get d' (by omega) (by omega)]
 by_cases h1 : k = q + i
 ·subst h1
  rw [if_pos rfl, h (p + i), if_neg (by omega), if_neg (by omega), if_neg (by omega), if_pos (by omega), show p + (q + i - q) = p + i by omega]
 ·rw [if_neg h1]
  by_cases h2 : k = p + i
  ·subst h2
   rw [if_pos rfl, h (q + i), if_neg (by omega), if_neg (by omega), if_pos (by omega), show q + (p + i - p) = q + i by omega]
  ·rw [if_neg h2, h k]
   by_cases c1 : p ≤ k ∧ k < p + i
   ·rw [if_pos c1, if_pos (by omega)]
   ·rw [if_neg c1, if_neg (show ¬ (p ≤ k ∧ k < p + (i + 1)) by omega)]
    by_cases c2 : q ≤ k ∧ k < q + i
    ·rw [if_pos c2, if_pos (by omega)]
    ·rw [if_neg c2, if_neg (by omega)]
theorem rot_left {d d' d2 : Array α} {m i j : Nat} (hi : i ≤ m) (hij : j < i) (h : swapped d d' (m - i) m j) (h2 : rotated d' d2 (m - (i - j)) m (m + j)) : rotated d d2 (m - i) m (m + j) := fun k => by
 rw [h2 k]
 by_cases c1 : k < m - i
 ·rw [if_pos (by omega), if_pos c1, h k, if_neg (by omega), if_neg (by omega)]
 ·rw [if_neg c1]
  by_cases c2 : k < m - i + (m + j - m)
  ·rw [if_pos (by omega), if_pos c2, h k, if_pos (by omega)]
  ·rw [if_neg c2, if_neg (by omega)]
   by_cases c3 : k < m - (i - j) + (m + j - m)
   ·rw [if_pos c3, if_pos (by omega), h, if_neg (by omega), if_pos (by omega)]
    congr 1; omega
   ·rw [if_neg c3]
    by_cases c4 : k < m + j
    ·rw [if_pos c4, if_pos c4, h, if_neg (by omega), if_neg (by omega)]
     congr 1; omega
    ·rw [if_neg c4, if_neg c4, h, if_neg (by omega), if_neg (by omega)]
theorem rot_right {d d' d2 : Array α} {m i j : Nat} (hi : i ≤ m) (hij : i < j) (h : swapped d d' (m - i) (m + j - i) i) (h2 : rotated d' d2 (m - i) m (m + (j - i))) : rotated d d2 (m - i) m (m + j) := fun k => by
 rw [h2 k]
 by_cases c1 : k < m - i
 ·rw [if_pos c1, if_pos c1, h k, if_neg (by omega), if_neg (by omega)]
 ·rw [if_neg c1, if_neg c1]
  by_cases c2 : k < m - i + (m + (j - i) - m)
  ·rw [if_pos c2, if_pos (by omega), h, if_neg (by omega), if_neg (by omega)]
  ·rw [if_neg c2]
   by_cases c3 : k < m + (j - i)
   ·rw [if_pos c3, if_pos (by omega), h, if_pos (by omega)]
    congr 1; omega
   ·rw [if_neg c3]
    by_cases c4 : k < m - i + (m + j - m)
    ·omega
    ·rw [if_neg c4]
     by_cases c5 : k < m + j
     ·rw [if_pos c5, h, if_neg (by omega), if_pos (by omega)]
      congr 1; omega
     ·rw [if_neg c5, h, if_neg (by omega), if_neg (by omega)]
theorem rot_even {d d' : Array α} {m i : Nat} (hi : i ≤ m) (h : swapped d d' (m - i) m i) : rotated d d' (m - i) m (m + i) := fun k => by
 rw [h k]
 by_cases c1 : k < m - i
 ·rw [if_neg (by omega), if_neg (by omega), if_pos c1]
 ·rw [if_neg c1]
  by_cases c2 : k < m - i + (m + i - m)
  ·rw [if_pos (by omega), if_pos c2]
  ·rw [if_neg c2, if_neg (by omega)]
   by_cases c3 : k < m + i
   ·rw [if_pos (by omega), if_pos c3]; congr 1; omega
   ·rw [if_neg (by omega), if_neg c3]
theorem rot_parts (hS : SWO lt) {d d1 : Array α} {a s m e b t : Nat} (ht : t = s + (e - m)) (h1 : a ≤ s) (h2 : s ≤ m) (h3 : m ≤ e) (h4 : e ≤ b) (hl : SortedIn lt a m d) (hr : SortedIn lt m b d) (hm : rotated d d1 s m e)
  (hx : s = a ∨ e = b ∨ lt d[e]! d[s - 1]! = false) (hy : s = m ∨ e = m ∨ lt d[e - 1]! d[s]! = true) :
  SortedIn lt a s d1 ∧ SortedIn lt s t d1 ∧ SortedIn lt t e d1 ∧ SortedIn lt e b d1 ∧ ∀ p q, a ≤ p → p < t → t ≤ q → q < b → lt d1[q]! d1[p]! = false := by
 subst ht
 have g1 : ∀ k, k < s → d1[k]! = d[k]! := fun k h => by rw [hm k, if_pos h]
 have g2 : ∀ k, s ≤ k → k < s + (e - m) → d1[k]! = d[m + (k - s)]! := fun k h h' => by rw [hm k, if_neg (by omega), if_pos h']
 have g3 : ∀ k, s + (e - m) ≤ k → k < e → d1[k]! = d[s + (k - (s + (e - m)))]! := fun k h h' => by rw [hm k, if_neg (by omega), if_neg (by omega), if_pos h']
 have g4 : ∀ k, e ≤ k → d1[k]! = d[k]! := fun k h => by rw [hm k, if_neg (by omega), if_neg (by omega), if_neg (by omega)]
 refine ⟨fun p q h5 h6 h7 => ?_, fun p q h5 h6 h7 => ?_, fun p q h5 h6 h7 => ?_, fun p q h5 h6 h7 => ?_, fun p q h5 h6 h7 h8 => ?_⟩
 ·rw [g1 p (by omega), g1 q h7]; exact hl p q h5 h6 (by omega)
 ·rw [g2 p h5 (by omega), g2 q (by omega) h7]; exact hr _ _ (by omega) (by omega) (by omega)
 ·rw [g3 p h5 (by omega), g3 q (by omega) h7]; exact hl _ _ (by omega) (by omega) (by omega)
 ·rw [g4 p h5, g4 q (by omega)]; exact hr _ _ (by omega) h6 h7
 ·have le : ∀ x y z : α, lt y x = false → lt z y = false → lt z x = false := fun x y z hxy hyz => hS.ntrans _ _ _ hyz hxy
  have self : ∀ x : α, lt x x = false := hS.irrefl
  by_cases c1 : p < s
  ·rw [g1 p c1]
   by_cases c2 : q < e
   ·rw [g3 q h7 c2]; exact hl _ _ h5 (by omega) (by omega)
   ·rw [g4 q (by omega)]
    rcases hx with hx | hx | hx
    ·omega
    ·omega
    ·have e1 : lt d[s - 1]! d[p]! = false := by
      by_cases c : p = s - 1
      ·rw [c]; exact self _
      ·exact hl _ _ h5 (by omega) (by omega)
     have e2 : lt d[q]! d[e]! = false := by
      by_cases c : q = e
      ·rw [c]; exact self _
      ·exact hr _ _ (by omega) (by omega) h8
     exact le _ _ _ (le _ _ _ e1 hx) e2
  ·rw [g2 p (by omega) h6]
   by_cases c2 : q < e
   ·rw [g3 q h7 c2]
    rcases hy with hy | hy | hy
    ·omega
    ·omega
    ·have e1 : lt d[e - 1]! d[m + (p - s)]! = false := by
      by_cases c : m + (p - s) = e - 1
      ·rw [c]; exact self _
      ·exact hr _ _ (by omega) (by omega) (by omega)
     have e2 : lt d[s + (q - (s + (e - m)))]! d[s]! = false := by
      by_cases c : s + (q - (s + (e - m))) = s
      ·rw [c]; exact self _
      ·exact hl _ _ h1 (by omega) (by omega)
     exact le _ _ _ (le _ _ _ e1 (hS.asymmA hy)) e2
   ·rw [g4 q (by omega)]; exact hr _ _ (by omega) (by omega) h8
def lowIn (idx : α → Nat) (a m b : Nat) (d : Array α) : Prop := ∀ p q, a ≤ p → p < m → m ≤ q → q < b → idx d[p]! < idx d[q]!
theorem rot_low {d d1 : Array α} {a s m e b t : Nat} (ht : t = s + (e - m)) (h1 : a ≤ s) (h2 : s ≤ m) (h3 : m ≤ e) (h4 : e ≤ b) (hL : lowIn idx a m b d) (hm : rotated d d1 s m e) : lowIn idx a s t d1 ∧ lowIn idx t e b d1 := by
 subst ht
 refine ⟨fun p q h5 h6 h7 h8 => ?_, fun p q h5 h6 h7 h8 => ?_⟩
 ·rw [hm p, if_pos h6, hm q, if_neg (by omega), if_pos h8]; exact hL _ _ h5 (by omega) (by omega) (by omega)
 ·rw [hm p, if_neg (by omega), if_neg (by omega), if_pos h6, hm q, if_neg (by omega), if_neg (by omega), if_neg (by omega)]; exact hL _ _ (by omega) (by omega) (by omega) h8
theorem mrg_join {d1 d2 d3 : Array α} {a t b : Nat} (hat : a ≤ t) (htb : t ≤ b) (hb : b ≤ d1.size) (hc : ∀ p q, a ≤ p → p < t → t ≤ q → q < b → lt d1[q]! d1[p]! = false)
  (p1 : PermIn a t d1 d2) (s1 : SortedIn lt a t d2) (p2 : PermIn t b d2 d3) (s2 : SortedIn lt t b d3) : PermIn a b d1 d3 ∧ SortedIn lt a b d3 := by
 have hb2 : b ≤ d2.size := by rw [p1.1]; exact hb
 refine ⟨permIn_trans _ _ _ _ _ (permIn_mono _ _ a t a b (Nat.le_refl _) htb hb p1) (permIn_mono _ _ t b a b hat (Nat.le_refl _) hb2 p2), ?_⟩
 have c2 : ∀ p q, a ≤ p → p < t → t ≤ q → q < b → lt d2[q]! d2[p]! = false := fun p q h1 h2 h3 h4 => by
  rw [p1.2.1 q (.inr h3)]
  exact permIn_all d1 d2 a t (fun x => lt d1[q]! x = false) (by omega) p1 (fun i h5 h6 => hc i q h5 h6 h3 h4) p h1 h2
 have c3 : ∀ p q, a ≤ p → p < t → t ≤ q → q < b → lt d3[q]! d3[p]! = false := fun p q h1 h2 h3 h4 => by
  rw [p2.2.1 p (.inl h2)]
  exact permIn_all d2 d3 t b (fun x => lt x d2[p]! = false) hb2 p2 (fun i h5 h6 => c2 p i h1 h2 h5 h6) q h3 h4
 intro p q h1 h2 h3
 by_cases e1 : q < t
 ·rw [p2.2.1 p (.inl (by omega)), p2.2.1 q (.inl e1)]; exact s1 p q h1 h2 e1
 ·by_cases e2 : t ≤ p
  ·exact s2 p q e2 h2 h3
  ·exact c3 p q h1 (by omega) (by omega) h3

/-! ### The whole: blocks of s elements, from place lo on -/
def stBlk (lt : α → α → Bool) (idx : α → Nat) (s n k : Nat) (d : Array α) : Prop :=
 SortedIn lt (k * s) (min (k * s + s) n) d ∧ ∀ p, k * s ≤ p → p < min (k * s + s) n → k * s ≤ idx d[p]! ∧ idx d[p]! < k * s + s
theorem stBlk.keep {s n k a b : Nat} {d d' : Array α} (h : stBlk lt idx s n k d) (hp : PermIn a b d d') (hd : k * s + s ≤ a ∨ b ≤ k * s) : stBlk lt idx s n k d' := by
 obtain ⟨h1, h2⟩ := h
 refine ⟨fun p q h3 h4 h5 => ?_, fun p h3 h4 => ?_⟩
 ·rw [hp.2.1 p (by omega), hp.2.1 q (by omega)]; exact h1 p q h3 h4 h5
 ·rw [hp.2.1 p (by omega)]; exact h2 p h3 h4
theorem stBlk.none {s n k : Nat} {d : Array α} (h : n ≤ k * s) : stBlk lt idx s n k d := ⟨fun p q h3 h4 h5 => by omega, fun p h3 h4 => by omega⟩
theorem stBlk.ins {s n k a b : Nat} {d d' : Array α} (ha : a = k * s) (hb : b = min (k * s + s) n) (hbs : b ≤ d.size) (hd : ∀ p, a ≤ p → p < b → idx d[p]! = p) (hp : PermIn a b d d') (hs : SortedIn lt a b d') : stBlk lt idx s n k d' := by
 subst ha
 subst hb
 exact ⟨hs, permIn_all d d' _ _ (fun x => k * s ≤ idx x ∧ idx x < k * s + s) hbs hp fun i h1 h2 => by rw [hd i h1 h2]; omega⟩
theorem stBlk_two (i s : Nat) : 2 * i * s = i * (2 * s) ∧ (2 * i + 1) * s = i * (2 * s) + s := by
 have h : 2 * i * s = i * (2 * s) := by rw [Nat.mul_comm 2 i, Nat.mul_assoc]
 exact ⟨h, by rw [Nat.add_mul, h, Nat.one_mul]⟩
theorem stBlk.halves {s n i a e : Nat} {d : Array α} (ha : a = i * (2 * s)) (he : e = min (a + 2 * s) n) (hm : a + s < e) (h1 : stBlk lt idx s n (2 * i) d) (h2 : stBlk lt idx s n (2 * i + 1) d) :
  SortedIn lt a (a + s) d ∧ SortedIn lt (a + s) e d ∧ lowIn idx a (a + s) e d := by
 obtain ⟨e1, e2⟩ := stBlk_two i s
 unfold stBlk at h1 h2
 rw [e1, ← ha] at h1
 rw [e2, ← ha] at h2
 refine ⟨fun p q h3 h4 h5 => h1.1 p q h3 h4 (by omega), fun p q h3 h4 h5 => h2.1 p q h3 h4 (by omega), fun p q h3 h4 h5 h6 => ?_⟩
 have := (h1.2 p h3 (by omega)).2
 have := (h2.2 q h5 (by omega)).1
 omega
theorem stBlk.whole {s n i a e : Nat} {d d' : Array α} (ha : a = i * (2 * s)) (he : e = min (a + 2 * s) n) (hes : e ≤ d.size) (h1 : stBlk lt idx s n (2 * i) d) (h2 : stBlk lt idx s n (2 * i + 1) d) (hp : PermIn a e d d') (hs : SortedIn lt a e d') : stBlk lt idx (2 * s) n i d' := by
 obtain ⟨e1, e2⟩ := stBlk_two i s
 unfold stBlk at h1 h2 ⊢
 rw [e1, ← ha] at h1
 rw [e2, ← ha] at h2
 rw [← ha, ← he]
 refine ⟨hs, permIn_all d d' _ _ (fun x => a ≤ idx x ∧ idx x < a + 2 * s) hes hp fun j h3 h4 => ?_⟩
 by_cases c : j < a + s
 ·have := h1.2 j h3 (by omega); omega
 ·have := h2.2 j (by omega) (by omega); omega
theorem stBlk.half {s n i : Nat} {d : Array α} (hn : n ≤ i * (2 * s) + s) (h1 : stBlk lt idx s n (2 * i) d) : stBlk lt idx (2 * s) n i d := by
 obtain ⟨e1, e2⟩ := stBlk_two i s
 unfold stBlk at h1 ⊢
 rw [e1] at h1
 refine ⟨fun p q h3 h4 h5 => h1.1 p q h3 h4 (by omega), fun p h3 h4 => ?_⟩
 have := h1.2 p h3 (by omega); omega
theorem stBlk.all {s n : Nat} {d : Array α} (hn : n ≤ s) (h1 : stBlk lt idx s n 0 d) : SortedIn lt 0 n d := fun p q h3 h4 h5 => h1.1 p q (by omega) h4 (by omega)
end
open Go.RowKit
def Blk (k : IntKind) (t : TypeId) (w : World) (g : Nat) (L : List Nat) : Prop := w.heap[g]? = some (.cells (L.map fun (d : Nat) => Value.int k (d : Int)).toArray t (0, 0))
section
variable {k : IntKind} {t : TypeId} {w w' : World} {b o g B : Nat} {L : List Nat}
end
section
variable {k : IntKind} {t : TypeId} {w w' : World} {g B B' c : Nat} {A : Option Addr} {L : List Nat}
end
theorem below_alloc_new {w : World} (o : Obj) : Below w.heap.size w (w.alloc o) := (Below.refl _ _).alloc (Nat.le_refl _) _
theorem wpList_make_zeros {P : Program} (w : World) {ops : Array Oper} {rest : List Oper} {o : Oper} {a : Act} {Q : Exit → Act → World → Prop}
  (hg : o.guard = none) (l c : Operand) (t : TypeId) (hop : o.op = Op.makeSlice t l c)
  (e : TypeId) (k : IntKind) (i : TypeInfo) (bytes : Nat) (ht : P.underlying t = some (.slice e)) (hi : P.info? e = some i) (hz : i.zero = some (.int k 0)) (hsize : i.size = 1) (hbt : i.bytes = bytes)
  (kl kc : IntKind) (N C : Int) (n : Nat) (hl : a.eval l = .int kl N) (hc : a.eval c = .int kc C) (hN : N = (n : Int)) (hC : C = (n : Int)) (hb8 : bytes ≤ 8) (hn : n ≤ 100000000)
  (hK : ∀ w', Hid (Blk k e w' w.heap.size (List.replicate n 0)) → Below w.heap.size w w' → w.heap.size + 1 = w'.heap.size → wpList P ops Q rest (a.put o.dst (.slice (some ⟨w.heap.size, 0, none⟩) n n)) w') :
  wpList P ops Q (o :: rest) a w := by
 subst hN
 subst hC
 refine wpList_make_row w hg l c t hop e i (.int k 0) ht hi hz hsize rfl kl kc n hl hc ?_ (by omega) ?_
 ·have : i.bytes * n ≤ 8 * n := Nat.mul_le_mul_right _ (by omega)
  omega
 refine hK _ ?_ (below_alloc_new _) (by simp)
 show _ = _
 rw [heap_alloc_new]
 have : madeCells #[Value.int k 0] n = ((List.replicate n 0).map fun (d : Nat) => Value.int k (d : Int)).toArray := by
  apply Array.ext
  ·simp [madeCells]
  ·intro j h1 h2
   simp [madeCells, Nat.mod_one]
 rw [this]
theorem quiet_one {P : Program} {f : FuncId} {args : Array Value} {w : World} {n : Nat} {v : Value}
  (h : ∀ W : World, Calls P f args W fun e w' => e = .returned v ∧ ∃ m, w' = W.drewN m) :
  Calls P f args (w.drewN n) fun e w'' => e = .returned v ∧ ∃ m, w'' = w.drewN m :=
 (h _).mono fun _ _ ⟨he, m, hm⟩ => ⟨he, n + m, by rw [hm, World.drewN_drewN]⟩
theorem below_drewN {B : Nat} {a w : World} (h : Below B a w) (n : Nat) : Below B a (w.drewN n) := ⟨h.os, h.tape, h.output, h.size, h.block⟩
theorem dc_drew {B : Nat} {a w : World} (h : Below B a w) : Below B a w.drew := ⟨h.os, h.tape, h.output, h.size, h.block⟩
theorem below_more {W w w' : World} (h : Below W.heap.size W w) (hb : Below w.heap.size w w') : Below W.heap.size W w' := h.trans (hb.mono h.size)
open Go.Shelf Go.RowKit Go.Lib Go.Sort
variable {α : Type} [Inhabited α] {enc : α → Value} {w0 : World} {blk off : Nat} {d0 : Array α}
set_option maxHeartbeats 4000000 in
set_option maxRecDepth 100000 in
theorem st_swapRange (R : Row1 enc w0 blk off d0) (g : Nat) (cb : Array Value) (cap lo hi a b n : Nat) (d : Array α) (w : World) (hs : d0.size = d.size) (S : SW enc w0 blk off d w) (hab : a + n ≤ b) (hb : b + n ≤ hi) (hlo : lo ≤ a) (hhi : hi ≤ d.size) (hsz : d.size < 4611686018427387904) :
  Calls Try.prog 54 #[.slice (some ⟨blk, off, none⟩) d.size cap, .int .i64 a, .int .i64 b, .int .i64 n, .func (.func g) #[] cb] w fun e w' => e = .returned (.tuple #[]) ∧ ∃ d' : Array α, SW enc w0 blk off d' w' ∧ swapped d d' a b n ∧ PermIn lo hi d d' := by
 have hcl0 := R.hO.cells
 simp only [Value.cells] at hcl0
 have hst := R.hO.store Try.prog
 have S0 : Aside (SW enc w0 blk off d w) := S
 clear S
 go_enter Try.func54, Try.ntmps54
 go_wp2_with fail
 go_loopg [10] n (fun kx s wr => ∃ (i : Nat) (dk : Array α), s = .int .i64 i ∧ i ≤ n ∧ n - i ≤ kx ∧ dk.size = d.size ∧ Aside (SW enc w0 blk off dk wr) ∧ Hid (swapped d dk a b i) ∧ Hid (PermIn lo hi d dk))
 case atStart => exact ⟨0, d, rfl, by omega, by omega, rfl, S0, Lib.hid (swapped.refl d a b), Lib.hid (permIn_refl d lo hi)⟩
 case round =>
  clear S0
  obtain ⟨i, dk, rfl, hin, hkx, hds, S1, HS, HP⟩ := hrel
  by_cases hlt : i < n
  ·have hltz : (i : Int) < (n : Int) := by omega
   obtain ⟨iN, hiN⟩ : ∃ q, q = a + i := ⟨_, rfl⟩
   obtain ⟨jN, hjN⟩ : ∃ q, q = b + i := ⟨_, rfl⟩
   have ea : ((a : Int) + i).toNat = iN := by omega
   have pa : (0 : Int) ≤ (a : Int) + i := by omega
   have ba : (a : Int) + i < (d.size : Int) := by omega
   have ra : IntKind.i64.wrap ((a : Int) + i) = (a : Int) + i := by rw [IntKind.wrap_i64]; omega
   have ec : ((b : Int) + i).toNat = jN := by omega
   have pc : (0 : Int) ≤ (b : Int) + i := by omega
   have bc : (b : Int) + i < (d.size : Int) := by omega
   have rc : IntKind.i64.wrap ((b : Int) + i) = (b : Int) + i := by rw [IntKind.wrap_i64]; omega
   obtain ⟨x, hx⟩ : ∃ x, x = dk[a + i]! := ⟨_, rfl⟩
   obtain ⟨y, hy⟩ : ∃ x, x = dk[b + i]! := ⟨_, rfl⟩
   have S2 : Aside (SW enc w0 blk off (swp dk (a + i) (b + i)) ((wr.setCell ⟨blk, off + iN, none⟩ (enc y)).setCell ⟨blk, off + jN, none⟩ (enc x)).drew) := by rw [hiN, hjN, hx, hy]; exact S1.out.swapped R (a + i) (b + i) (by omega) (by omega)
   have c1 := S1.out.c1 R (by omega) (a + i) (by omega)
   have c2 := S1.out.c1 R (by omega) (b + i) (by omega)
   have f1 := S1.out.f1 R (by omega) (a + i) (by omega)
   have f2 := S1.out.f1 R (by omega) (b + i) (by omega)
   obtain ⟨u, c3⟩ := S1.out.c2 R (by omega) (a + i) (b + i) (by omega) (by omega) (enc y)
   rw [← hjN, ← hiN] at c3
   rw [← hx, ← hiN] at c1
   rw [← hy, ← hjN] at c2
   rw [← hiN] at f1
   rw [← hjN] at f2
   clear S1 hx hy hiN hjN
   go_wp2_with fail
   go_region
   clear c1 c2 c3 f1 f2
   generalize ((wr.setCell ⟨blk, off + iN, none⟩ (enc y)).setCell ⟨blk, off + jN, none⟩ (enc x)).drew = w2 at S2 ⊢
   clear ea ec
   go_wp2_with fail
   go_roundg (n - (i + 1))
   case measure => omega
   case rel =>
    exact ⟨i + 1, swp dk (a + i) (b + i), by go_num, by omega, by omega, by rw [size_swp]; exact hds, S2, Lib.hid (HS.out.next (by omega) hds (by omega)), Lib.hid (permIn_trans _ _ _ _ _ HP.out (swp_permIn _ _ _ _ _ (by omega) (by omega) (by omega) (by omega) (by omega)))⟩
  ·obtain rfl : i = n := by omega
   go_wp2_with fail
   go_end0
   exact ⟨rfl, dk, S1.out, HS.out, HP.out⟩
set_option maxHeartbeats 4000000 in
set_option maxRecDepth 100000 in
theorem st_rotate (R : Row1 enc w0 blk off d0) (g : Nat) (cb : Array Value) (cap lo hi a m b : Nat) (d : Array α) (w : World) (hs : d0.size = d.size) (S : SW enc w0 blk off d w) (ham : a < m) (hmb : m < b) (hb : b ≤ hi) (hlo : lo ≤ a) (hhi : hi ≤ d.size) (hsz : d.size < 4611686018427387904) :
  Calls Try.prog 53 #[.slice (some ⟨blk, off, none⟩) d.size cap, .int .i64 a, .int .i64 m, .int .i64 b, .func (.func g) #[] cb] w fun e w' => e = .returned (.tuple #[]) ∧ ∃ d' : Array α, SW enc w0 blk off d' w' ∧ rotated d d' a m b ∧ PermIn lo hi d d' := by
 have S0 : Aside (SW enc w0 blk off d w) := S
 clear S
 have hsw := fun a b n dk w h1 h2 h3 h4 h5 h6 => st_swapRange (enc := enc) (w0 := w0) (blk := blk) (off := off) R g cb cap lo hi a b n dk w h1 h2 h3 h4 h5 h6
 have HSW := Lib.hid hsw
 clear hsw
 obtain ⟨i0, hi0⟩ : ∃ i0 : Nat, (m : Int) - a = i0 := ⟨m - a, by omega⟩
 obtain ⟨j0, hj0⟩ : ∃ j0 : Nat, (b : Int) - m = j0 := ⟨b - m, by omega⟩
 have E1 : Hid (a = m - i0) := Lib.hid (by omega)
 have E2 : Hid (b = m + j0) := Lib.hid (by omega)
 go_enter Try.func53, Try.ntmps53
 go_wp2_with fail
 go_loopg [10, 11] (i0 + j0) (fun kx si sj wr => ∃ (i j : Nat) (dk : Array α), si = .int .i64 i ∧ sj = .int .i64 j ∧ 0 < i ∧ 0 < j ∧ i ≤ i0 ∧ j ≤ j0 ∧ i + j ≤ kx ∧ dk.size = d.size ∧ Aside (SW enc w0 blk off dk wr) ∧ Hid (∀ d2 : Array α, rotated dk d2 (m - i) m (m + j) → rotated d d2 a m b) ∧ Hid (PermIn lo hi d dk))
 case atStart => exact ⟨i0, j0, d, rfl, rfl, by omega, by omega, by omega, by omega, by omega, rfl, S0, Lib.hid (fun d2 h => by rw [E1.out, E2.out]; exact h), Lib.hid (permIn_refl d lo hi)⟩
 case round =>
  clear S0
  obtain ⟨i, j, dk, rfl, rfl, hi1, hj1, hi2, hj2, hkx, hds, S1, HR, HP⟩ := hrel
  obtain ⟨p, hp⟩ : ∃ p : Nat, (m : Int) - i = p := ⟨m - i, by omega⟩
  have ep : m - i = p := by omega
  rw [ep] at HR
  replace ep := Lib.hid ep
  by_cases hne : i = j
  ·subst hne
   have hcon := HSW.out p m i dk wr (by omega) S1.out (by have := ep.out; omega) (by omega) (by omega) (by omega)
   rw [hds] at hcon
   have hcon := hcon (by omega)
   have hd0 : decide ((i : Int) = (i : Int)) = true := by simp
   have HC := Lib.hid hcon
   clear hcon
   go_wp2_with (go_at_call 54; refine HC.out.mono ?_; rintro e w' ⟨rfl, d2, S2, hsw, hpm⟩)
   go_end0
   exact ⟨rfl, d2, S2, HR.out d2 (by rw [← ep.out]; exact rot_even (by omega) (by rw [ep.out]; exact hsw)), permIn_trans _ _ _ _ _ HP.out hpm⟩
  ·have hne' : ¬ (i : Int) = (j : Int) := by omega
   by_cases hlt : j < i
   ·have hltz : (j : Int) < (i : Int) := by omega
    have hcon := HSW.out p m j dk wr (by omega) S1.out (by have := ep.out; omega) (by omega) (by omega) (by omega)
    rw [hds] at hcon
    have hcon := hcon (by omega)
    have HC := Lib.hid hcon
    clear hcon
    go_wp2_with (go_at_call 54; refine HC.out.mono ?_; rintro e w' ⟨rfl, d2, S2, hsw, hpm⟩)
    have hds2 : d2.size = d.size := hpm.1.trans hds
    have S3 : Aside (SW enc w0 blk off d2 w') := S2
    have HR2 : Hid (∀ d3 : Array α, rotated d2 d3 (m - (i - j)) m (m + j) → rotated d d3 a m b) := Lib.hid fun d3 h3 => HR.out d3 (by rw [← ep.out]; exact rot_left (by omega) hlt (by rw [ep.out]; exact hsw) h3)
    have HP2 := Lib.hid (permIn_trans _ _ _ _ _ HP.out hpm)
    go_roundg (i - j + j)
    case measure => omega
    case rel => exact ⟨i - j, j, d2, by go_num, rfl, by omega, by omega, by omega, by omega, by omega, hds2, S3, HR2, HP2⟩
   ·have hltz : ¬ (j : Int) < (i : Int) := by omega
    obtain ⟨q, hq⟩ : ∃ q : Nat, (m : Int) + j - i = q := ⟨m + j - i, by omega⟩
    have eq : Hid (m + j - i = q) := Lib.hid (by omega)
    have hcon := HSW.out p q i dk wr (by omega) S1.out (by omega) (by omega) (by omega) (by omega)
    rw [hds] at hcon
    have hcon := hcon (by omega)
    have HC := Lib.hid hcon
    clear hcon
    go_wp2_with (go_at_call 54; refine HC.out.mono ?_; rintro e w' ⟨rfl, d2, S2, hsw, hpm⟩)
    have hds2 : d2.size = d.size := hpm.1.trans hds
    have S3 : Aside (SW enc w0 blk off d2 w') := S2
    have HR2 : Hid (∀ d3 : Array α, rotated d2 d3 (m - i) m (m + (j - i)) → rotated d d3 a m b) := Lib.hid fun d3 h3 => HR.out d3 (by rw [← ep.out]; exact rot_right (by omega) (by omega) (by rw [ep.out, eq.out]; exact hsw) h3)
    have HP2 := Lib.hid (permIn_trans _ _ _ _ _ HP.out hpm)
    go_roundg (i + (j - i))
    case measure => omega
    case rel => exact ⟨i, j - i, d2, rfl, by go_num, by omega, by omega, by omega, by omega, by omega, hds2, S3, HR2, HP2⟩
variable {α : Type} [Inhabited α] {enc : α → Value} {w0 : World} {blk off : Nat} {d0 : Array α}
set_option maxHeartbeats 4000000 in
set_option maxRecDepth 100000 in
theorem st_mergeA (R : Row1 enc w0 blk off d0) (cf : α → α → Int) (hS : SWO (ltOf cf)) (idx : α → Nat) (g : Nat) (cb : Array Value) (eg : ∀ args w, (callFunc g args).run Try.prog w = .ok (.enter g args) w) (hcmp : CmpLays1 Try.prog g cb enc cf blk off d0.size w0) (cap a m b : Nat) (d : Array α) (w : World)
  (hs : d0.size = d.size) (S : SW enc w0 blk off d w) (ham : m = a + 1) (hab : m < b) (hb : b ≤ d.size) (hsz : d.size < 4611686018427387904) (hr : SortedIn (tl (ltOf cf) idx) m b d) (hL : lowIn idx a m b d) :
  Calls Try.prog 52 #[.slice (some ⟨blk, off, none⟩) d.size cap, .int .i64 a, .int .i64 m, .int .i64 b, .func (.func g) #[] cb] w fun e w' => e = .returned (.tuple #[]) ∧ ∃ d' : Array α, SW enc w0 blk off d' w' ∧ PermIn a b d d' ∧ SortedIn (tl (ltOf cf) idx) a b d' := by
 have hcl0 := R.hO.cells
 simp only [Value.cells] at hcl0
 have hst := R.hO.store Try.prog
 have mixed : Try.prog.follows .mixedOrders = true := by kernel_rfl
 have S0 : Aside (SW enc w0 blk off d w) := S
 have HC : Aside _ := hcmp
 have HR := Lib.hid hr
 have HLo := Lib.hid hL
 have HSW := Lib.hid hS
 clear S hcmp hr hL hS
 have hone : (m : Int) - a = 1 := by omega
 have HAM := Lib.hid ham
 have ham1 : a < m := by omega
 clear ham
 go_enter Try.func52, Try.ntmps52
 go_wp2_with fail
 go_loopg [10, 11, 12] (b - m) (fun kx si sj sh wr => ∃ (i j : Nat), si = .int .i64 i ∧ sj = .int .i64 j ∧ m ≤ i ∧ i ≤ j ∧ j ≤ b ∧ j - i ≤ kx ∧ Aside (SW enc w0 blk off d wr) ∧ Hid (i = m ∨ tl (ltOf cf) idx d[i - 1]! d[a]! = true) ∧ Hid (j = b ∨ tl (ltOf cf) idx d[j]! d[a]! = false))
 case atStart => exact ⟨m, b, rfl, rfl, by omega, by omega, by omega, by omega, S0, Lib.hid (.inl rfl), Lib.hid (.inl rfl)⟩
 case round =>
  clear S0
  obtain ⟨i, j, rfl, rfl, hi1, hij, hjb, hkx, S1, H1, H2⟩ := hrel
  by_cases hlt : i < j
  ·have hltz : (i : Int) < (j : Int) := by omega
   obtain ⟨h, hh⟩ : ∃ h : Nat, ((i : Int) + j) / 2 = h := ⟨(i + j) / 2, by omega⟩
   have hih : i ≤ h := by omega
   have hhj : h < j := by omega
   have htl : Hid (tl (ltOf cf) idx d[h]! d[a]! = ltOf cf d[h]! d[a]!) := Lib.hid (tl_of (HLo.out a h (by omega) (by omega) (by omega) (by omega)))
   cases hv : tl (ltOf cf) idx d[h]! d[a]! with
   | true =>
    have HV := Lib.hid hv
    clear hv
    obtain ⟨iN1, hiN1⟩ : ∃ q, q = h := ⟨_, rfl⟩
    have ei1 : ((h : Int)).toNat = iN1 := by omega
    have pi1 : (0 : Int) ≤ (h : Int) := by omega
    have bi1 : (h : Int) < (d.size : Int) := by omega
    have ri1 : IntKind.i64.wrap ((h : Int)) = (h : Int) := by rw [IntKind.wrap_i64]; omega
    obtain ⟨jN1, hjN1⟩ : ∃ q, q = a := ⟨_, rfl⟩
    have ej1 : ((a : Int)).toNat = jN1 := by omega
    have pj1 : (0 : Int) ≤ (a : Int) := by omega
    have bj1 : (a : Int) < (d.size : Int) := by omega
    have rj1 : IntKind.i64.wrap ((a : Int)) = (a : Int) := by rw [IntKind.wrap_i64]; omega
    obtain ⟨x1, hx1⟩ : ∃ x, x = d[h]! := ⟨_, rfl⟩
    obtain ⟨y1, hy1⟩ : ∃ x, x = d[a]! := ⟨_, rfl⟩
    have l1a := S1.out.cl R (by omega) (h) (by omega)
    have l1b := S1.out.cl R (by omega) (a) (by omega)
    rw [← hx1, ← hiN1] at l1a
    rw [← hy1, ← hjN1] at l1b
    have hc1 := S1.out.cmp HC.out (by omega) x1 y1
    have hv1 : cf x1 y1 < 0 := by rw [hx1, hy1]; exact of_decide_eq_true (htl.out.symm.trans HV.out)
    have hd1 : decide (cf x1 y1 < 0) = true := decide_eq_true hv1
    clear hx1 hy1 hiN1 hjN1
    go_wp2_with fail
    go_quiet_grown (first | (go_at_fn g; refine Calls.grown_of (hc1 _ _)))
    have S2 : Aside (SW enc w0 blk off d (grow (wr.drewN nq) osq)) := S1.out.grown nq osq
    clear l1a l1b hc1 S1
    generalize grow (wr.drewN nq) osq = w2 at S2 ⊢
    clear nq osq
    clear ei1 ej1 hv1 hd1 pi1 bi1 ri1 pj1 bj1 rj1
    go_wp2_with fail
    go_roundg (j - (h + 1))
    case measure => omega
    case rel => exact ⟨h + 1, j, by go_num, rfl, by omega, by omega, by omega, by omega, S2, Lib.hid (.inr HV.out), H2⟩
   | false =>
    have HV := Lib.hid hv
    clear hv
    obtain ⟨iN2, hiN2⟩ : ∃ q, q = h := ⟨_, rfl⟩
    have ei2 : ((h : Int)).toNat = iN2 := by omega
    have pi2 : (0 : Int) ≤ (h : Int) := by omega
    have bi2 : (h : Int) < (d.size : Int) := by omega
    have ri2 : IntKind.i64.wrap ((h : Int)) = (h : Int) := by rw [IntKind.wrap_i64]; omega
    obtain ⟨jN2, hjN2⟩ : ∃ q, q = a := ⟨_, rfl⟩
    have ej2 : ((a : Int)).toNat = jN2 := by omega
    have pj2 : (0 : Int) ≤ (a : Int) := by omega
    have bj2 : (a : Int) < (d.size : Int) := by omega
    have rj2 : IntKind.i64.wrap ((a : Int)) = (a : Int) := by rw [IntKind.wrap_i64]; omega
    obtain ⟨x2, hx2⟩ : ∃ x, x = d[h]! := ⟨_, rfl⟩
    obtain ⟨y2, hy2⟩ : ∃ x, x = d[a]! := ⟨_, rfl⟩
    have l2a := S1.out.cl R (by omega) (h) (by omega)
    have l2b := S1.out.cl R (by omega) (a) (by omega)
    rw [← hx2, ← hiN2] at l2a
    rw [← hy2, ← hjN2] at l2b
    have hc2 := S1.out.cmp HC.out (by omega) x2 y2
    have hv2 : ¬ cf x2 y2 < 0 := by rw [hx2, hy2]; exact of_decide_eq_false (htl.out.symm.trans HV.out)
    have hd2 : decide (cf x2 y2 < 0) = false := decide_eq_false hv2
    clear hx2 hy2 hiN2 hjN2
    go_wp2_with fail
    go_quiet_grown (first | (go_at_fn g; refine Calls.grown_of (hc2 _ _)))
    have S2 : Aside (SW enc w0 blk off d (grow (wr.drewN nq) osq)) := S1.out.grown nq osq
    clear l2a l2b hc2 S1
    generalize grow (wr.drewN nq) osq = w2 at S2 ⊢
    clear nq osq
    clear ei2 ej2 hv2 hd2 pi2 bi2 ri2 pj2 bj2 rj2
    go_wp2_with fail
    go_roundg (h - i)
    case measure => omega
    case rel => exact ⟨i, h, rfl, rfl, by omega, by omega, by omega, by omega, S2, H1, Lib.hid (.inr HV.out)⟩
  ·obtain rfl : i = j := by omega
   have hii : decide ((i : Int) < (i : Int)) = false := by simp
   go_wp2_with fail
   have S5 : Aside (SW enc w0 blk off d wr) := S1
   clear S1
   go_loopg [13] (i - 1 - a) (fun kx sk wr => ∃ (k : Nat) (dk : Array α), sk = .int .i64 k ∧ a ≤ k ∧ k ≤ i - 1 ∧ i - 1 - k ≤ kx ∧ dk.size = d.size ∧ Aside (SW enc w0 blk off dk wr) ∧ Hid (movedUp d dk a k) ∧ Hid (PermIn a b d dk))
   case atStart => exact ⟨a, d, rfl, by omega, by omega, by omega, rfl, S5, Lib.hid (movedUp.refl d a), Lib.hid (permIn_refl d a b)⟩
   case round =>
    clear S5
    obtain ⟨k, dk, rfl, hk1, hk2, hkx, hds, S1, HM, HP⟩ := hrel
    by_cases hlt2 : k < i - 1
    ·have hltz : (k : Int) < (i : Int) - 1 := by omega
     obtain ⟨iN5, hiN5⟩ : ∃ q, q = k := ⟨_, rfl⟩
     have ei5 : ((k : Int)).toNat = iN5 := by omega
     have pi5 : (0 : Int) ≤ (k : Int) := by omega
     have bi5 : (k : Int) < (d.size : Int) := by omega
     have ri5 : IntKind.i64.wrap ((k : Int)) = (k : Int) := by rw [IntKind.wrap_i64]; omega
     obtain ⟨jN5, hjN5⟩ : ∃ q, q = k + 1 := ⟨_, rfl⟩
     have ej5 : ((k : Int) + 1).toNat = jN5 := by omega
     have pj5 : (0 : Int) ≤ (k : Int) + 1 := by omega
     have bj5 : (k : Int) + 1 < (d.size : Int) := by omega
     have rj5 : IntKind.i64.wrap ((k : Int) + 1) = (k : Int) + 1 := by rw [IntKind.wrap_i64]; omega
     obtain ⟨x5, hx5⟩ : ∃ x, x = dk[k]! := ⟨_, rfl⟩
     obtain ⟨y5, hy5⟩ : ∃ x, x = dk[k + 1]! := ⟨_, rfl⟩
     have S2 : Aside (SW enc w0 blk off (swp dk (k) (k + 1)) ((wr.setCell ⟨blk, off + iN5, none⟩ (enc y5)).setCell ⟨blk, off + jN5, none⟩ (enc x5)).drew) := by rw [hiN5, hjN5, hx5, hy5]; exact S1.out.swapped R (k) (k + 1) (by omega) (by omega)
     have c5a := S1.out.c1 R (by omega) (k) (by omega)
     have c5b := S1.out.c1 R (by omega) (k + 1) (by omega)
     have f5a := S1.out.f1 R (by omega) (k) (by omega)
     have f5b := S1.out.f1 R (by omega) (k + 1) (by omega)
     obtain ⟨u5, c5c⟩ := S1.out.c2 R (by omega) (k) (k + 1) (by omega) (by omega) (enc y5)
     rw [← hjN5, ← hiN5] at c5c
     rw [← hx5, ← hiN5] at c5a
     rw [← hy5, ← hjN5] at c5b
     rw [← hiN5] at f5a
     rw [← hjN5] at f5b
     clear S1 hx5 hy5 hiN5 hjN5
     go_wp2_with fail
     go_region
     clear c5a c5b c5c f5a f5b
     generalize ((wr.setCell ⟨blk, off + iN5, none⟩ (enc y5)).setCell ⟨blk, off + jN5, none⟩ (enc x5)).drew = w2 at S2 ⊢
     clear ei5 ej5 pi5 bi5 ri5 pj5 bj5 rj5
     go_wp2_with fail
     go_roundg (i - 1 - (k + 1))
     case measure => omega
     case rel => exact ⟨k + 1, swp dk k (k + 1), by go_num, by omega, by omega, by omega, by rw [size_swp]; exact hds, S2, Lib.hid (HM.out.next (by omega) hds (by omega)), Lib.hid (permIn_trans _ _ _ _ _ HP.out (swp_permIn _ _ _ _ _ (by omega) (by omega) (by omega) (by omega) (by omega)))⟩
    ·have hltz : ¬ (k : Int) < (i : Int) - 1 := by omega
     have hki : Hid (k = i - 1) := Lib.hid (by omega)
     go_wp2_with fail
     refine bodyPost_ret (results_none rfl _ _ _) rfl ?_
     refine ⟨rfl, dk, S1.out, HP.out, mrg_up (tl_swo HSW.out) (i := i) (by omega) (by omega) (by rw [← HAM.out]; exact HR.out) ?_ H2.out ?_⟩
     ·rw [← HAM.out]; exact H1.out
     ·rw [← hki.out]; exact HM.out
set_option maxHeartbeats 4000000 in
set_option maxRecDepth 100000 in
theorem st_mergeB (R : Row1 enc w0 blk off d0) (cf : α → α → Int) (hS : SWO (ltOf cf)) (idx : α → Nat) (g : Nat) (cb : Array Value) (eg : ∀ args w, (callFunc g args).run Try.prog w = .ok (.enter g args) w) (hcmp : CmpLays1 Try.prog g cb enc cf blk off d0.size w0) (cap a m b : Nat) (d : Array α) (w : World)
  (hs : d0.size = d.size) (S : SW enc w0 blk off d w) (ham : a + 1 < m) (hab : b = m + 1) (hb : b ≤ d.size) (hsz : d.size < 4611686018427387904) (hr : SortedIn (tl (ltOf cf) idx) a m d) (hL : lowIn idx a m b d) :
  Calls Try.prog 52 #[.slice (some ⟨blk, off, none⟩) d.size cap, .int .i64 a, .int .i64 m, .int .i64 b, .func (.func g) #[] cb] w fun e w' => e = .returned (.tuple #[]) ∧ ∃ d' : Array α, SW enc w0 blk off d' w' ∧ PermIn a b d d' ∧ SortedIn (tl (ltOf cf) idx) a b d' := by
 have hcl0 := R.hO.cells
 simp only [Value.cells] at hcl0
 have hst := R.hO.store Try.prog
 have mixed : Try.prog.follows .mixedOrders = true := by kernel_rfl
 have S0 : Aside (SW enc w0 blk off d w) := S
 have HC : Aside _ := hcmp
 have HR := Lib.hid hr
 have HLo := Lib.hid hL
 have HSW := Lib.hid hS
 clear S hcmp hr hL hS
 have hone : (b : Int) - m = 1 := by omega
 have hnone : ((m : Int) - a == 1) = false := by simp; omega
 have HAM := Lib.hid hab
 have hab1 : m < b := by omega
 clear hab
 go_enter Try.func52, Try.ntmps52
 go_wp2_with fail
 go_loopg [14, 15, 16] (m - a) (fun kx si sj sh wr => ∃ (i j : Nat), si = .int .i64 i ∧ sj = .int .i64 j ∧ a ≤ i ∧ i ≤ j ∧ j ≤ m ∧ j - i ≤ kx ∧ Aside (SW enc w0 blk off d wr) ∧ Hid (i = a ∨ tl (ltOf cf) idx d[m]! d[i - 1]! = false) ∧ Hid (j = m ∨ tl (ltOf cf) idx d[m]! d[j]! = true))
 case atStart => exact ⟨a, m, rfl, rfl, by omega, by omega, by omega, by omega, S0, Lib.hid (.inl rfl), Lib.hid (.inl rfl)⟩
 case round =>
  clear S0
  obtain ⟨i, j, rfl, rfl, hi1, hij, hjb, hkx, S1, H1, H2⟩ := hrel
  by_cases hlt : i < j
  ·have hltz : (i : Int) < (j : Int) := by omega
   obtain ⟨h, hh⟩ : ∃ h : Nat, ((i : Int) + j) / 2 = h := ⟨(i + j) / 2, by omega⟩
   have hih : i ≤ h := by omega
   have hhj : h < j := by omega
   have htl : Hid (tl (ltOf cf) idx d[m]! d[h]! = ltOf cf d[m]! d[h]!) := Lib.hid (tl_of (HLo.out h m (by omega) (by omega) (by omega) (by omega)))
   cases hv : tl (ltOf cf) idx d[m]! d[h]! with
   | false =>
    have HV := Lib.hid hv
    clear hv
    obtain ⟨iN3, hiN3⟩ : ∃ q, q = m := ⟨_, rfl⟩
    have ei3 : ((m : Int)).toNat = iN3 := by omega
    have pi3 : (0 : Int) ≤ (m : Int) := by omega
    have bi3 : (m : Int) < (d.size : Int) := by omega
    have ri3 : IntKind.i64.wrap ((m : Int)) = (m : Int) := by rw [IntKind.wrap_i64]; omega
    obtain ⟨jN3, hjN3⟩ : ∃ q, q = h := ⟨_, rfl⟩
    have ej3 : ((h : Int)).toNat = jN3 := by omega
    have pj3 : (0 : Int) ≤ (h : Int) := by omega
    have bj3 : (h : Int) < (d.size : Int) := by omega
    have rj3 : IntKind.i64.wrap ((h : Int)) = (h : Int) := by rw [IntKind.wrap_i64]; omega
    obtain ⟨x3, hx3⟩ : ∃ x, x = d[m]! := ⟨_, rfl⟩
    obtain ⟨y3, hy3⟩ : ∃ x, x = d[h]! := ⟨_, rfl⟩
    have l3a := S1.out.cl R (by omega) (m) (by omega)
    have l3b := S1.out.cl R (by omega) (h) (by omega)
    rw [← hx3, ← hiN3] at l3a
    rw [← hy3, ← hjN3] at l3b
    have hc3 := S1.out.cmp HC.out (by omega) x3 y3
    have hv3 : ¬ cf x3 y3 < 0 := by rw [hx3, hy3]; exact of_decide_eq_false (htl.out.symm.trans HV.out)
    have hd3 : decide (cf x3 y3 < 0) = false := decide_eq_false hv3
    clear hx3 hy3 hiN3 hjN3
    go_wp2_with fail
    go_quiet_grown (first | (go_at_fn g; refine Calls.grown_of (hc3 _ _)))
    have S2 : Aside (SW enc w0 blk off d (grow (wr.drewN nq) osq)) := S1.out.grown nq osq
    clear l3a l3b hc3 S1
    generalize grow (wr.drewN nq) osq = w2 at S2 ⊢
    clear nq osq
    clear ei3 ej3 hv3 hd3 pi3 bi3 ri3 pj3 bj3 rj3
    go_wp2_with fail
    go_roundg (j - (h + 1))
    case measure => omega
    case rel => exact ⟨h + 1, j, by go_num, rfl, by omega, by omega, by omega, by omega, S2, Lib.hid (.inr HV.out), H2⟩
   | true =>
    have HV := Lib.hid hv
    clear hv
    obtain ⟨iN4, hiN4⟩ : ∃ q, q = m := ⟨_, rfl⟩
    have ei4 : ((m : Int)).toNat = iN4 := by omega
    have pi4 : (0 : Int) ≤ (m : Int) := by omega
    have bi4 : (m : Int) < (d.size : Int) := by omega
    have ri4 : IntKind.i64.wrap ((m : Int)) = (m : Int) := by rw [IntKind.wrap_i64]; omega
    obtain ⟨jN4, hjN4⟩ : ∃ q, q = h := ⟨_, rfl⟩
    have ej4 : ((h : Int)).toNat = jN4 := by omega
    have pj4 : (0 : Int) ≤ (h : Int) := by omega
    have bj4 : (h : Int) < (d.size : Int) := by omega
    have rj4 : IntKind.i64.wrap ((h : Int)) = (h : Int) := by rw [IntKind.wrap_i64]; omega
    obtain ⟨x4, hx4⟩ : ∃ x, x = d[m]! := ⟨_, rfl⟩
    obtain ⟨y4, hy4⟩ : ∃ x, x = d[h]! := ⟨_, rfl⟩
    have l4a := S1.out.cl R (by omega) (m) (by omega)
    have l4b := S1.out.cl R (by omega) (h) (by omega)
    rw [← hx4, ← hiN4] at l4a
    rw [← hy4, ← hjN4] at l4b
    have hc4 := S1.out.cmp HC.out (by omega) x4 y4
    have hv4 : cf x4 y4 < 0 := by rw [hx4, hy4]; exact of_decide_eq_true (htl.out.symm.trans HV.out)
    have hd4 : decide (cf x4 y4 < 0) = true := decide_eq_true hv4
    clear hx4 hy4 hiN4 hjN4
    go_wp2_with fail
    go_quiet_grown (first | (go_at_fn g; refine Calls.grown_of (hc4 _ _)))
    have S2 : Aside (SW enc w0 blk off d (grow (wr.drewN nq) osq)) := S1.out.grown nq osq
    clear l4a l4b hc4 S1
    generalize grow (wr.drewN nq) osq = w2 at S2 ⊢
    clear nq osq
    clear ei4 ej4 hv4 hd4 pi4 bi4 ri4 pj4 bj4 rj4
    go_wp2_with fail
    go_roundg (h - i)
    case measure => omega
    case rel => exact ⟨i, h, rfl, rfl, by omega, by omega, by omega, by omega, S2, H1, Lib.hid (.inr HV.out)⟩
  ·obtain rfl : i = j := by omega
   have hii : decide ((i : Int) < (i : Int)) = false := by simp
   go_wp2_with fail
   have S5 : Aside (SW enc w0 blk off d wr) := S1
   clear S1
   go_loopg [17] (m - i) (fun kx sk wr => ∃ (k : Nat) (dk : Array α), sk = .int .i64 k ∧ i ≤ k ∧ k ≤ m ∧ k - i ≤ kx ∧ dk.size = d.size ∧ Aside (SW enc w0 blk off dk wr) ∧ Hid (movedDown d dk k m) ∧ Hid (PermIn a b d dk))
   case atStart => exact ⟨m, d, rfl, by omega, by omega, by omega, rfl, S5, Lib.hid (movedDown.refl d m), Lib.hid (permIn_refl d a b)⟩
   case round =>
    clear S5
    obtain ⟨k, dk, rfl, hk1, hk2, hkx, hds, S1, HM, HP⟩ := hrel
    by_cases hlt2 : i < k
    ·have hltz : (i : Int) < (k : Int) := by omega
     obtain ⟨kp, hkp⟩ : ∃ q : Nat, (k : Int) - 1 = q := ⟨k - 1, by omega⟩
     have hkp1 : Hid (k = kp + 1) := Lib.hid (by omega)
     obtain ⟨iN6, hiN6⟩ : ∃ q, q = k := ⟨_, rfl⟩
     have ei6 : ((k : Int)).toNat = iN6 := by omega
     have pi6 : (0 : Int) ≤ (k : Int) := by omega
     have bi6 : (k : Int) < (d.size : Int) := by omega
     have ri6 : IntKind.i64.wrap ((k : Int)) = (k : Int) := by rw [IntKind.wrap_i64]; omega
     obtain ⟨jN6, hjN6⟩ : ∃ q, q = kp := ⟨_, rfl⟩
     have ej6 : ((kp : Int)).toNat = jN6 := by omega
     have pj6 : (0 : Int) ≤ (kp : Int) := by omega
     have bj6 : (kp : Int) < (d.size : Int) := by omega
     have rj6 : IntKind.i64.wrap ((kp : Int)) = (kp : Int) := by rw [IntKind.wrap_i64]; omega
     obtain ⟨x6, hx6⟩ : ∃ x, x = dk[k]! := ⟨_, rfl⟩
     obtain ⟨y6, hy6⟩ : ∃ x, x = dk[kp]! := ⟨_, rfl⟩
     have S2 : Aside (SW enc w0 blk off (swp dk (k) (kp)) ((wr.setCell ⟨blk, off + iN6, none⟩ (enc y6)).setCell ⟨blk, off + jN6, none⟩ (enc x6)).drew) := by rw [hiN6, hjN6, hx6, hy6]; exact S1.out.swapped R (k) (kp) (by omega) (by omega)
     have c6a := S1.out.c1 R (by omega) (k) (by omega)
     have c6b := S1.out.c1 R (by omega) (kp) (by omega)
     have f6a := S1.out.f1 R (by omega) (k) (by omega)
     have f6b := S1.out.f1 R (by omega) (kp) (by omega)
     obtain ⟨u6, c6c⟩ := S1.out.c2 R (by omega) (k) (kp) (by omega) (by omega) (enc y6)
     rw [← hjN6, ← hiN6] at c6c
     rw [← hx6, ← hiN6] at c6a
     rw [← hy6, ← hjN6] at c6b
     rw [← hiN6] at f6a
     rw [← hjN6] at f6b
     clear S1 hx6 hy6 hiN6 hjN6
     go_wp2_with fail
     go_region
     clear c6a c6b c6c f6a f6b
     generalize ((wr.setCell ⟨blk, off + iN6, none⟩ (enc y6)).setCell ⟨blk, off + jN6, none⟩ (enc x6)).drew = w2 at S2 ⊢
     clear ei6 ej6 pi6 bi6 ri6 pj6 bj6 rj6
     go_wp2_with fail
     go_roundg (kp - i)
     case measure => omega
     case rel => exact ⟨kp, swp dk k kp, by go_num, by omega, by omega, by omega, by rw [size_swp]; exact hds, S2, Lib.hid (by rw [hkp1.out]; exact (show movedDown d dk (kp + 1) m by rw [← hkp1.out]; exact HM.out).next (by omega) hds (by omega)), Lib.hid (permIn_trans _ _ _ _ _ HP.out (swp_permIn _ _ _ _ _ (by omega) (by omega) (by omega) (by omega) (by omega)))⟩
    ·have hltz : ¬ (i : Int) < (k : Int) := by omega
     have hki : Hid (k = i) := Lib.hid (by omega)
     go_wp2_with fail
     refine bodyPost_ret (results_none rfl _ _ _) rfl ?_
     refine ⟨rfl, dk, S1.out, HP.out, ?_⟩
     rw [HAM.out]
     exact mrg_down (tl_swo HSW.out) (i := i) (by omega) (by omega) HR.out H1.out H2.out (by rw [← hki.out]; exact HM.out)
variable {α : Type} [Inhabited α] {enc : α → Value} {w0 : World} {blk off : Nat} {d0 : Array α}
def MrgOk (enc : α → Value) (w0 : World) (blk off : Nat) (T : α → α → Bool) (g : Nat) (cb : Array Value) (cap a m b : Nat) (d : Array α) (w : World) : Prop :=
 Calls Try.prog 52 #[.slice (some ⟨blk, off, none⟩) d.size cap, .int .i64 a, .int .i64 m, .int .i64 b, .func (.func g) #[] cb] w fun e w' => e = .returned (.tuple #[]) ∧ ∃ d' : Array α, SW enc w0 blk off d' w' ∧ PermIn a b d d' ∧ SortedIn T a b d'
theorem sorted_keep {T : α → α → Bool} {a t p q : Nat} {d d' : Array α} (h : PermIn a t d d') (hp : t ≤ p) (hs : SortedIn T p q d) : SortedIn T p q d' := fun i j h1 h2 h3 => by rw [h.2.1 i (.inr (by omega)), h.2.1 j (.inr (by omega))]; exact hs i j h1 h2 h3
theorem low_keep {idx : α → Nat} {a t p q r : Nat} {d d' : Array α} (h : PermIn a t d d') (hp : t ≤ p) (_hpq : p ≤ q) (hs : lowIn idx p q r d) : lowIn idx p q r d' := fun i j h1 h2 h3 h4 => by rw [h.2.1 i (.inr (by omega)), h.2.1 j (.inr (by omega))]; exact hs i j h1 h2 h3 h4
set_option maxHeartbeats 8000000 in
set_option maxRecDepth 100000 in
theorem st_mergeC1 (R : Row1 enc w0 blk off d0) (cf : α → α → Int) (hS : SWO (ltOf cf)) (idx : α → Nat) (g : Nat) (cb : Array Value) (eg : ∀ args w, (callFunc g args).run Try.prog w = .ok (.enter g args) w) (hcmp : CmpLays1 Try.prog g cb enc cf blk off d0.size w0) (cap a m b mid : Nat) (d : Array α) (w : World)
  (ih : ∀ (a2 m2 b2 : Nat) (d2 : Array α) (w2 : World), b2 - a2 < b - a → d0.size = d2.size → SW enc w0 blk off d2 w2 → a2 < m2 → m2 < b2 → b2 ≤ d2.size → SortedIn (tl (ltOf cf) idx) a2 m2 d2 → SortedIn (tl (ltOf cf) idx) m2 b2 d2 → lowIn idx a2 m2 b2 d2 → MrgOk enc w0 blk off (tl (ltOf cf) idx) g cb cap a2 m2 b2 d2 w2)
  (hs : d0.size = d.size) (S : SW enc w0 blk off d w) (ham : a + 1 < m) (hmb : m + 1 < b) (hb : b ≤ d.size) (hsz : d.size < 4611686018427387904) (hl : SortedIn (tl (ltOf cf) idx) a m d) (hr : SortedIn (tl (ltOf cf) idx) m b d) (hL : lowIn idx a m b d) (hmid : ((a : Int) + b) / 2 = mid) (hcase : mid < m) :
  MrgOk enc w0 blk off (tl (ltOf cf) idx) g cb cap a m b d w := by
 unfold MrgOk at *
 have hcl0 := R.hO.cells
 simp only [Value.cells] at hcl0
 have hst := R.hO.store Try.prog
 have mixed : Try.prog.follows .mixedOrders = true := by kernel_rfl
 have S0 : Aside (SW enc w0 blk off d w) := S
 have HC : Aside _ := hcmp
 have HR := Lib.hid hr
 have HLf := Lib.hid hl
 have HLo := Lib.hid hL
 have HSW := Lib.hid hS
 have HIH := Lib.hid ih
 clear S hcmp hr hL hS hl ih
 have hone1 : ((m : Int) - a == 1) = false := by simp; omega
 have hone2 : ((b : Int) - m == 1) = false := by simp; omega
 have mid1 : a < mid := by omega
 have mid2 : mid < b := by omega
 obtain ⟨nn, hnn⟩ : ∃ nn : Nat, (mid : Int) + m = nn := ⟨mid + m, by omega⟩
 obtain ⟨p, hp⟩ : ∃ p : Nat, (nn : Int) - 1 = p := ⟨nn - 1, by omega⟩
 obtain ⟨lo, hlo⟩ : ∃ lo : Nat, (nn : Int) - b = lo := ⟨nn - b, by omega⟩
 obtain ⟨hi, hhi⟩ : ∃ hi : Nat, (mid : Nat) = hi := ⟨_, rfl⟩
 have HHI := Lib.hid hhi
 have HLO := Lib.hid hlo
 have k1 : a ≤ lo := by omega
 have k2 : lo ≤ hi := by omega
 have k3 : hi ≤ m := by omega
 have k4 : hi ≤ mid := by omega
 have k5 : nn ≤ b + lo := by omega
 have hmz : (mid : Int) < (m : Int) := by omega
 clear hhi hcase
 go_enter Try.func52, Try.ntmps52
 go_wp2_with fail
 go_loopg [20, 21, 23] (hi - lo) (fun kx si sj sh wr => ∃ (i j : Nat), si = .int .i64 i ∧ sj = .int .i64 j ∧ lo ≤ i ∧ i ≤ j ∧ j ≤ hi ∧ j - i ≤ kx ∧ Aside (SW enc w0 blk off d wr) ∧ Hid (i = lo ∨ tl (ltOf cf) idx d[nn - i]! d[i - 1]! = false) ∧ Hid (j = hi ∨ tl (ltOf cf) idx d[nn - j - 1]! d[j]! = true))
 case atStart => exact ⟨lo, hi, rfl, by rw [HHI.out], by omega, by omega, by omega, by omega, S0, Lib.hid (.inl rfl), Lib.hid (.inl rfl)⟩
 case round =>
  clear S0
  obtain ⟨i, j, rfl, rfl, hi1, hij, hjb, hkx, S1, H1, H2⟩ := hrel
  by_cases hlt : i < j
  ·have hltz : (i : Int) < (j : Int) := by omega
   obtain ⟨c, hc⟩ : ∃ c : Nat, ((i : Int) + j) / 2 = c := ⟨(i + j) / 2, by omega⟩
   have hih : i ≤ c := by omega
   have hhj : c < j := by omega
   obtain ⟨q, hq⟩ : ∃ q : Nat, (p : Int) - c = q := ⟨p - c, by omega⟩
   have hq1 : m ≤ q := by omega
   have hq2 : q < b := by omega
   have hq3 : Hid (nn - (c + 1) = q) := Lib.hid (by omega)
   have hq4 : Hid (nn - c - 1 = q) := Lib.hid (by omega)
   have htl : Hid (tl (ltOf cf) idx d[q]! d[c]! = ltOf cf d[q]! d[c]!) := Lib.hid (tl_of (HLo.out c q (by omega) (by omega) (by omega) (by omega)))
   cases hv : tl (ltOf cf) idx d[q]! d[c]! with
   | false =>
    have HV := Lib.hid hv
    clear hv
    obtain ⟨iN1, hiN1⟩ : ∃ z9, z9 = q := ⟨_, rfl⟩
    have ei1 : ((q : Int)).toNat = iN1 := by omega
    have pi1 : (0 : Int) ≤ (q : Int) := by omega
    have bi1 : (q : Int) < (d.size : Int) := by omega
    have ri1 : IntKind.i64.wrap ((q : Int)) = (q : Int) := by rw [IntKind.wrap_i64]; omega
    obtain ⟨jN1, hjN1⟩ : ∃ z9, z9 = c := ⟨_, rfl⟩
    have ej1 : ((c : Int)).toNat = jN1 := by omega
    have pj1 : (0 : Int) ≤ (c : Int) := by omega
    have bj1 : (c : Int) < (d.size : Int) := by omega
    have rj1 : IntKind.i64.wrap ((c : Int)) = (c : Int) := by rw [IntKind.wrap_i64]; omega
    obtain ⟨x1, hx1⟩ : ∃ z9, z9 = d[q]! := ⟨_, rfl⟩
    obtain ⟨y1, hy1⟩ : ∃ z9, z9 = d[c]! := ⟨_, rfl⟩
    have l1a := S1.out.cl R (by omega) (q) (by omega)
    have l1b := S1.out.cl R (by omega) (c) (by omega)
    rw [← hx1, ← hiN1] at l1a
    rw [← hy1, ← hjN1] at l1b
    have hc1 := S1.out.cmp HC.out (by omega) x1 y1
    have hv1 : ¬ cf x1 y1 < 0 := by rw [hx1, hy1]; exact of_decide_eq_false (htl.out.symm.trans HV.out)
    have hd1 : decide (cf x1 y1 < 0) = false := decide_eq_false hv1
    clear hx1 hy1 hiN1 hjN1
    go_wp2_with fail
    go_quiet_grown (first | (go_at_fn g; refine Calls.grown_of (hc1 _ _)))
    have S2 : Aside (SW enc w0 blk off d (grow (wr.drewN nq) osq)) := S1.out.grown nq osq
    clear l1a l1b hc1 S1
    generalize grow (wr.drewN nq) osq = w2 at S2 ⊢
    clear nq osq
    clear ei1 ej1 hv1 hd1 pi1 bi1 ri1 pj1 bj1 rj1
    go_wp2_with fail
    go_roundg (j - (c + 1))
    case measure => omega
    case rel => exact ⟨c + 1, j, by go_num, rfl, by omega, by omega, by omega, by omega, S2, Lib.hid (.inr (by rw [hq3.out]; exact HV.out)), H2⟩
   | true =>
    have HV := Lib.hid hv
    clear hv
    obtain ⟨iN2, hiN2⟩ : ∃ z9, z9 = q := ⟨_, rfl⟩
    have ei2 : ((q : Int)).toNat = iN2 := by omega
    have pi2 : (0 : Int) ≤ (q : Int) := by omega
    have bi2 : (q : Int) < (d.size : Int) := by omega
    have ri2 : IntKind.i64.wrap ((q : Int)) = (q : Int) := by rw [IntKind.wrap_i64]; omega
    obtain ⟨jN2, hjN2⟩ : ∃ z9, z9 = c := ⟨_, rfl⟩
    have ej2 : ((c : Int)).toNat = jN2 := by omega
    have pj2 : (0 : Int) ≤ (c : Int) := by omega
    have bj2 : (c : Int) < (d.size : Int) := by omega
    have rj2 : IntKind.i64.wrap ((c : Int)) = (c : Int) := by rw [IntKind.wrap_i64]; omega
    obtain ⟨x2, hx2⟩ : ∃ z9, z9 = d[q]! := ⟨_, rfl⟩
    obtain ⟨y2, hy2⟩ : ∃ z9, z9 = d[c]! := ⟨_, rfl⟩
    have l2a := S1.out.cl R (by omega) (q) (by omega)
    have l2b := S1.out.cl R (by omega) (c) (by omega)
    rw [← hx2, ← hiN2] at l2a
    rw [← hy2, ← hjN2] at l2b
    have hc2 := S1.out.cmp HC.out (by omega) x2 y2
    have hv2 : cf x2 y2 < 0 := by rw [hx2, hy2]; exact of_decide_eq_true (htl.out.symm.trans HV.out)
    have hd2 : decide (cf x2 y2 < 0) = true := decide_eq_true hv2
    clear hx2 hy2 hiN2 hjN2
    go_wp2_with fail
    go_quiet_grown (first | (go_at_fn g; refine Calls.grown_of (hc2 _ _)))
    have S2 : Aside (SW enc w0 blk off d (grow (wr.drewN nq) osq)) := S1.out.grown nq osq
    clear l2a l2b hc2 S1
    generalize grow (wr.drewN nq) osq = w2 at S2 ⊢
    clear nq osq
    clear ei2 ej2 hv2 hd2 pi2 bi2 ri2 pj2 bj2 rj2
    go_wp2_with fail
    go_roundg (c - i)
    case measure => omega
    case rel => exact ⟨i, c, rfl, rfl, by omega, by omega, by omega, by omega, S2, H1, Lib.hid (.inr (by rw [hq4.out]; exact HV.out))⟩
  ·obtain rfl : i = j := by omega
   have hii : decide ((i : Int) < (i : Int)) = false := by simp
   obtain ⟨e, he⟩ : ∃ e : Nat, (nn : Int) - i = e := ⟨nn - i, by omega⟩
   have e1 : m ≤ e := by omega
   have e2 : e ≤ b := by omega
   have e3 : i ≤ m := by omega
   have e4 : Hid (mid = i + (e - m)) := Lib.hid (by omega)
   have e5 : Hid (nn - i = e) := Lib.hid (by omega)
   have HX : Hid (i = a ∨ e = b ∨ tl (ltOf cf) idx d[e]! d[i - 1]! = false) := Lib.hid (by
    rcases H1.out with h | h
    ·have := HLO.out; right; left; omega
    ·rw [e5.out] at h; exact .inr (.inr h))
   have HY : Hid (i = m ∨ e = m ∨ tl (ltOf cf) idx d[e - 1]! d[i]! = true) := Lib.hid (by
    rcases H2.out with h | h
    ·have := HHI.out; right; left; omega
    ·rw [e5.out] at h; exact .inr (.inr h))
   clear H1 H2
   go_upto_region 39 with fail
   go_cut [185] from 178 to 185 (fun c wx => c = .bool (decide (i < m ∧ m < e)) ∧ Aside (SW enc w0 blk off d wx))
   case first =>
    by_cases c1 : i < m
    ·have c1z : (i : Int) < (m : Int) := by omega
     by_cases c2 : m < e
     ·have c2z : (m : Int) < (e : Int) := by omega
      go_wp2_with fail
      go_meet
      exact ⟨congrArg Value.bool (decide_eq_true (p := i < m ∧ m < e) (by omega)).symm, S1⟩
     ·have c2z : decide ((m : Int) < (e : Int)) = false := decide_eq_false (by omega)
      go_wp2_with fail
      go_meet
      exact ⟨congrArg Value.bool (decide_eq_false (p := i < m ∧ m < e) (by omega)).symm, S1⟩
    ·have c1z : decide ((i : Int) < (m : Int)) = false := decide_eq_false (by omega)
     go_wp2_with fail
     go_meet
     exact ⟨congrArg Value.bool (decide_eq_false (p := i < m ∧ m < e) (by omega)).symm, S1⟩
   case rest =>
   clear S1
   obtain ⟨rfl, S1⟩ := hcut
   go_upto_if 185 with fail
   go_cut [] from 185 to 191 (fun wx => ∃ d1 : Array α, Aside (SW enc w0 blk off d1 wx) ∧ Hid (rotated d d1 i m e) ∧ Hid (PermIn a b d d1))
   case first =>
    by_cases c1 : i < m ∧ m < e
    ·have c1z : decide (i < m ∧ m < e) = true := decide_eq_true c1
     have hrot := st_rotate R g cb cap a b i m e d _ hs S1.out c1.1 c1.2 (by omega) (by omega) (by omega) hsz
     have HROT := Lib.hid hrot
     clear hrot
     go_wp2_with (go_at_call 53; refine HROT.out.mono ?_; rintro ex w' ⟨rfl, d1, S5, hro, hpe⟩)
     go_meet
     exact ⟨d1, S5, Lib.hid hro, Lib.hid hpe⟩
    ·have c1z : decide (i < m ∧ m < e) = false := decide_eq_false c1
     go_wp2_with fail
     go_meet
     exact ⟨d, S1, Lib.hid (rotated.none (by omega) (by omega) (by omega)), Lib.hid (permIn_refl _ _ _)⟩
   case rest =>
   clear S1
   obtain ⟨d1, S1, HRO, HP1⟩ := hcut
   have hd1 : d1.size = d.size := HP1.out.1
   obtain ⟨q1, q2, q3, q4, hcr⟩ := rot_parts (tl_swo HSW.out) e4.out (by omega) (by omega) (by omega) (by omega) HLf.out HR.out HRO.out HX.out HY.out
   obtain ⟨l1, l2⟩ := rot_low e4.out (by omega) (by omega) (by omega) (by omega) HLo.out HRO.out
   have Q1 := Lib.hid q1
   have Q2 := Lib.hid q2
   have Q3 := Lib.hid q3
   have Q4 := Lib.hid q4
   have HCR := Lib.hid hcr
   have L1 := Lib.hid l1
   have L2 := Lib.hid l2
   have e6 : i ≤ mid := by have := e4.out; omega
   have e7 : mid ≤ e := by have := e4.out; omega
   clear q1 q2 q3 q4 hcr l1 l2 HX HY
   go_upto_region 41 with fail
   go_cut [199] from 192 to 199 (fun c wx => c = .bool (decide (a < i ∧ i < mid)) ∧ Aside (SW enc w0 blk off d1 wx))
   case first =>
    by_cases c1 : a < i
    ·have c1z : (a : Int) < (i : Int) := by omega
     by_cases c2 : i < mid
     ·have c2z : (i : Int) < (mid : Int) := by omega
      go_wp2_with fail
      go_meet
      exact ⟨congrArg Value.bool (decide_eq_true (p := a < i ∧ i < mid) (by omega)).symm, S1⟩
     ·have c2z : decide ((i : Int) < (mid : Int)) = false := decide_eq_false (by omega)
      go_wp2_with fail
      go_meet
      exact ⟨congrArg Value.bool (decide_eq_false (p := a < i ∧ i < mid) (by omega)).symm, S1⟩
    ·have c1z : decide ((a : Int) < (i : Int)) = false := decide_eq_false (by omega)
     go_wp2_with fail
     go_meet
     exact ⟨congrArg Value.bool (decide_eq_false (p := a < i ∧ i < mid) (by omega)).symm, S1⟩
   case rest =>
   clear S1
   obtain ⟨rfl, S1⟩ := hcut
   go_upto_if 199 with fail
   go_cut [] from 199 to 205 (fun wx => ∃ d2 : Array α, Aside (SW enc w0 blk off d2 wx) ∧ Hid (PermIn a mid d1 d2) ∧ Hid (SortedIn (tl (ltOf cf) idx) a mid d2))
   case first =>
    by_cases c1 : a < i ∧ i < mid
    ·have c1z : decide (a < i ∧ i < mid) = true := decide_eq_true c1
     have hrot := HIH.out a i mid d1 _ (by omega) (by omega) S1.out (by omega) (by omega) (by omega) Q1.out Q2.out L1.out
     rw [hd1] at hrot
     have HROT := Lib.hid hrot
     clear hrot
     go_wp2_with (go_at_call 52; refine HROT.out.mono ?_; rintro ex w' ⟨rfl, d2, S5, hpe, hso⟩)
     go_meet
     exact ⟨d2, S5, Lib.hid hpe, Lib.hid hso⟩
    ·have c1z : decide (a < i ∧ i < mid) = false := decide_eq_false c1
     go_wp2_with fail
     go_meet
     refine ⟨d1, S1, Lib.hid (permIn_refl _ _ _), Lib.hid ?_⟩
     by_cases c2 : i = a
     ·rw [← c2]; exact Q2.out
     ·rw [show mid = i by omega]; exact Q1.out
   case rest =>
   clear S1
   obtain ⟨d2, S1, HP2, HQ⟩ := hcut
   have hd2 : d2.size = d1.size := HP2.out.1
   have hd3 : d2.size = d.size := by omega
   replace Q3 := Lib.hid (sorted_keep HP2.out (by omega) Q3.out)
   replace Q4 := Lib.hid (sorted_keep HP2.out (by omega) Q4.out)
   replace L2 := Lib.hid (low_keep HP2.out (by omega) (by omega) L2.out)
   go_upto_region 43 with fail
   go_cut [213] from 206 to 213 (fun c wx => c = .bool (decide (mid < e ∧ e < b)) ∧ Aside (SW enc w0 blk off d2 wx))
   case first =>
    by_cases c1 : mid < e
    ·have c1z : (mid : Int) < (e : Int) := by omega
     by_cases c2 : e < b
     ·have c2z : (e : Int) < (b : Int) := by omega
      go_wp2_with fail
      go_meet
      exact ⟨congrArg Value.bool (decide_eq_true (p := mid < e ∧ e < b) (by omega)).symm, S1⟩
     ·have c2z : decide ((e : Int) < (b : Int)) = false := decide_eq_false (by omega)
      go_wp2_with fail
      go_meet
      exact ⟨congrArg Value.bool (decide_eq_false (p := mid < e ∧ e < b) (by omega)).symm, S1⟩
    ·have c1z : decide ((mid : Int) < (e : Int)) = false := decide_eq_false (by omega)
     go_wp2_with fail
     go_meet
     exact ⟨congrArg Value.bool (decide_eq_false (p := mid < e ∧ e < b) (by omega)).symm, S1⟩
   case rest =>
   clear S1
   obtain ⟨rfl, S1⟩ := hcut
   have HPP : ∀ d3 : Array α, PermIn mid b d2 d3 → SortedIn (tl (ltOf cf) idx) mid b d3 → PermIn a b d d3 ∧ SortedIn (tl (ltOf cf) idx) a b d3 := fun d3 h1 h2 => by
    have h := mrg_join (by omega) (by omega) (by omega) HCR.out HP2.out HQ.out h1 h2
    exact ⟨permIn_trans _ _ _ _ _ HP1.out h.1, h.2⟩
   have HPP2 := Lib.hid HPP
   clear HPP
   by_cases c1 : mid < e ∧ e < b
   ·have c1z : decide (mid < e ∧ e < b) = true := decide_eq_true c1
    have hrot := HIH.out mid e b d2 _ (by omega) (by omega) S1.out (by omega) (by omega) (by omega) Q3.out Q4.out L2.out
    rw [hd3] at hrot
    have HROT := Lib.hid hrot
    clear hrot
    go_wp2_with (go_at_call 52; refine HROT.out.mono ?_; rintro ex w' ⟨rfl, d3, S5, hpe, hso⟩)
    go_end0
    exact ⟨rfl, d3, S5, HPP2.out d3 hpe hso⟩
   ·have c1z : decide (mid < e ∧ e < b) = false := decide_eq_false c1
    have hso : Hid (SortedIn (tl (ltOf cf) idx) mid b d2) := Lib.hid (by
     by_cases c2 : e = mid
     ·rw [← c2]; exact Q4.out
     ·rw [show b = e by omega]; exact Q3.out)
    go_wp2_with fail
    go_end0
    exact ⟨rfl, d2, S1.out, HPP2.out d2 (permIn_refl _ _ _) hso.out⟩
set_option maxHeartbeats 8000000 in
set_option maxRecDepth 100000 in
theorem st_mergeC2 (R : Row1 enc w0 blk off d0) (cf : α → α → Int) (hS : SWO (ltOf cf)) (idx : α → Nat) (g : Nat) (cb : Array Value) (eg : ∀ args w, (callFunc g args).run Try.prog w = .ok (.enter g args) w) (hcmp : CmpLays1 Try.prog g cb enc cf blk off d0.size w0) (cap a m b mid : Nat) (d : Array α) (w : World)
  (ih : ∀ (a2 m2 b2 : Nat) (d2 : Array α) (w2 : World), b2 - a2 < b - a → d0.size = d2.size → SW enc w0 blk off d2 w2 → a2 < m2 → m2 < b2 → b2 ≤ d2.size → SortedIn (tl (ltOf cf) idx) a2 m2 d2 → SortedIn (tl (ltOf cf) idx) m2 b2 d2 → lowIn idx a2 m2 b2 d2 → MrgOk enc w0 blk off (tl (ltOf cf) idx) g cb cap a2 m2 b2 d2 w2)
  (hs : d0.size = d.size) (S : SW enc w0 blk off d w) (ham : a + 1 < m) (hmb : m + 1 < b) (hb : b ≤ d.size) (hsz : d.size < 4611686018427387904) (hl : SortedIn (tl (ltOf cf) idx) a m d) (hr : SortedIn (tl (ltOf cf) idx) m b d) (hL : lowIn idx a m b d) (hmid : ((a : Int) + b) / 2 = mid) (hcase : m ≤ mid) :
  MrgOk enc w0 blk off (tl (ltOf cf) idx) g cb cap a m b d w := by
 unfold MrgOk at *
 have hcl0 := R.hO.cells
 simp only [Value.cells] at hcl0
 have hst := R.hO.store Try.prog
 have mixed : Try.prog.follows .mixedOrders = true := by kernel_rfl
 have S0 : Aside (SW enc w0 blk off d w) := S
 have HC : Aside _ := hcmp
 have HR := Lib.hid hr
 have HLf := Lib.hid hl
 have HLo := Lib.hid hL
 have HSW := Lib.hid hS
 have HIH := Lib.hid ih
 clear S hcmp hr hL hS hl ih
 have hone1 : ((m : Int) - a == 1) = false := by simp; omega
 have hone2 : ((b : Int) - m == 1) = false := by simp; omega
 have mid1 : a < mid := by omega
 have mid2 : mid < b := by omega
 obtain ⟨nn, hnn⟩ : ∃ nn : Nat, (mid : Int) + m = nn := ⟨mid + m, by omega⟩
 obtain ⟨p, hp⟩ : ∃ p : Nat, (nn : Int) - 1 = p := ⟨nn - 1, by omega⟩
 obtain ⟨lo, hlo⟩ : ∃ lo : Nat, a = lo := ⟨a, rfl⟩
 obtain ⟨hi, hhi⟩ : ∃ hi : Nat, (m : Nat) = hi := ⟨_, rfl⟩
 have HHI := Lib.hid hhi
 have HLO := Lib.hid hlo
 have k1 : a ≤ lo := by omega
 have k2 : lo ≤ hi := by omega
 have k3 : hi ≤ m := by omega
 have k4 : hi ≤ mid := by omega
 have k5 : nn ≤ b + lo := by omega
 have hmz : decide ((mid : Int) < (m : Int)) = false := decide_eq_false (by omega)
 have hmz2 : ¬ (mid : Int) < (m : Int) := by omega
 clear hhi hlo hcase
 go_enter Try.func52, Try.ntmps52
 go_wp2_with fail
 go_loopg [20, 21, 23] (hi - lo) (fun kx si sj sh wr => ∃ (i j : Nat), si = .int .i64 i ∧ sj = .int .i64 j ∧ lo ≤ i ∧ i ≤ j ∧ j ≤ hi ∧ j - i ≤ kx ∧ Aside (SW enc w0 blk off d wr) ∧ Hid (i = lo ∨ tl (ltOf cf) idx d[nn - i]! d[i - 1]! = false) ∧ Hid (j = hi ∨ tl (ltOf cf) idx d[nn - j - 1]! d[j]! = true))
 case atStart => exact ⟨lo, hi, by rw [HLO.out], by rw [HHI.out], by omega, by omega, by omega, by omega, S0, Lib.hid (.inl rfl), Lib.hid (.inl rfl)⟩
 case round =>
  clear S0
  obtain ⟨i, j, rfl, rfl, hi1, hij, hjb, hkx, S1, H1, H2⟩ := hrel
  by_cases hlt : i < j
  ·have hltz : (i : Int) < (j : Int) := by omega
   obtain ⟨c, hc⟩ : ∃ c : Nat, ((i : Int) + j) / 2 = c := ⟨(i + j) / 2, by omega⟩
   have hih : i ≤ c := by omega
   have hhj : c < j := by omega
   obtain ⟨q, hq⟩ : ∃ q : Nat, (p : Int) - c = q := ⟨p - c, by omega⟩
   have hq1 : m ≤ q := by omega
   have hq2 : q < b := by omega
   have hq3 : Hid (nn - (c + 1) = q) := Lib.hid (by omega)
   have hq4 : Hid (nn - c - 1 = q) := Lib.hid (by omega)
   have htl : Hid (tl (ltOf cf) idx d[q]! d[c]! = ltOf cf d[q]! d[c]!) := Lib.hid (tl_of (HLo.out c q (by omega) (by omega) (by omega) (by omega)))
   cases hv : tl (ltOf cf) idx d[q]! d[c]! with
   | false =>
    have HV := Lib.hid hv
    clear hv
    obtain ⟨iN1, hiN1⟩ : ∃ z9, z9 = q := ⟨_, rfl⟩
    have ei1 : ((q : Int)).toNat = iN1 := by omega
    have pi1 : (0 : Int) ≤ (q : Int) := by omega
    have bi1 : (q : Int) < (d.size : Int) := by omega
    have ri1 : IntKind.i64.wrap ((q : Int)) = (q : Int) := by rw [IntKind.wrap_i64]; omega
    obtain ⟨jN1, hjN1⟩ : ∃ z9, z9 = c := ⟨_, rfl⟩
    have ej1 : ((c : Int)).toNat = jN1 := by omega
    have pj1 : (0 : Int) ≤ (c : Int) := by omega
    have bj1 : (c : Int) < (d.size : Int) := by omega
    have rj1 : IntKind.i64.wrap ((c : Int)) = (c : Int) := by rw [IntKind.wrap_i64]; omega
    obtain ⟨x1, hx1⟩ : ∃ z9, z9 = d[q]! := ⟨_, rfl⟩
    obtain ⟨y1, hy1⟩ : ∃ z9, z9 = d[c]! := ⟨_, rfl⟩
    have l1a := S1.out.cl R (by omega) (q) (by omega)
    have l1b := S1.out.cl R (by omega) (c) (by omega)
    rw [← hx1, ← hiN1] at l1a
    rw [← hy1, ← hjN1] at l1b
    have hc1 := S1.out.cmp HC.out (by omega) x1 y1
    have hv1 : ¬ cf x1 y1 < 0 := by rw [hx1, hy1]; exact of_decide_eq_false (htl.out.symm.trans HV.out)
    have hd1 : decide (cf x1 y1 < 0) = false := decide_eq_false hv1
    clear hx1 hy1 hiN1 hjN1
    go_wp2_with fail
    go_quiet_grown (first | (go_at_fn g; refine Calls.grown_of (hc1 _ _)))
    have S2 : Aside (SW enc w0 blk off d (grow (wr.drewN nq) osq)) := S1.out.grown nq osq
    clear l1a l1b hc1 S1
    generalize grow (wr.drewN nq) osq = w2 at S2 ⊢
    clear nq osq
    clear ei1 ej1 hv1 hd1 pi1 bi1 ri1 pj1 bj1 rj1
    go_wp2_with fail
    go_roundg (j - (c + 1))
    case measure => omega
    case rel => exact ⟨c + 1, j, by go_num, rfl, by omega, by omega, by omega, by omega, S2, Lib.hid (.inr (by rw [hq3.out]; exact HV.out)), H2⟩
   | true =>
    have HV := Lib.hid hv
    clear hv
    obtain ⟨iN2, hiN2⟩ : ∃ z9, z9 = q := ⟨_, rfl⟩
    have ei2 : ((q : Int)).toNat = iN2 := by omega
    have pi2 : (0 : Int) ≤ (q : Int) := by omega
    have bi2 : (q : Int) < (d.size : Int) := by omega
    have ri2 : IntKind.i64.wrap ((q : Int)) = (q : Int) := by rw [IntKind.wrap_i64]; omega
    obtain ⟨jN2, hjN2⟩ : ∃ z9, z9 = c := ⟨_, rfl⟩
    have ej2 : ((c : Int)).toNat = jN2 := by omega
    have pj2 : (0 : Int) ≤ (c : Int) := by omega
    have bj2 : (c : Int) < (d.size : Int) := by omega
    have rj2 : IntKind.i64.wrap ((c : Int)) = (c : Int) := by rw [IntKind.wrap_i64]; omega
    obtain ⟨x2, hx2⟩ : ∃ z9, z9 = d[q]! := ⟨_, rfl⟩
    obtain ⟨y2, hy2⟩ : ∃ z9, z9 = d[c]! := ⟨_, rfl⟩
    have l2a := S1.out.cl R (by omega) (q) (by omega)
    have l2b := S1.out.cl R (by omega) (c) (by omega)
    rw [← hx2, ← hiN2] at l2a
    rw [← hy2, ← hjN2] at l2b
    have hc2 := S1.out.cmp HC.out (by omega) x2 y2
    have hv2 : cf x2 y2 < 0 := by rw [hx2, hy2]; exact of_decide_eq_true (htl.out.symm.trans HV.out)
    have hd2 : decide (cf x2 y2 < 0) = true := decide_eq_true hv2
    clear hx2 hy2 hiN2 hjN2
    go_wp2_with fail
    go_quiet_grown (first | (go_at_fn g; refine Calls.grown_of (hc2 _ _)))
    have S2 : Aside (SW enc w0 blk off d (grow (wr.drewN nq) osq)) := S1.out.grown nq osq
    clear l2a l2b hc2 S1
    generalize grow (wr.drewN nq) osq = w2 at S2 ⊢
    clear nq osq
    clear ei2 ej2 hv2 hd2 pi2 bi2 ri2 pj2 bj2 rj2
    go_wp2_with fail
    go_roundg (c - i)
    case measure => omega
    case rel => exact ⟨i, c, rfl, rfl, by omega, by omega, by omega, by omega, S2, H1, Lib.hid (.inr (by rw [hq4.out]; exact HV.out))⟩
  ·obtain rfl : i = j := by omega
   have hii : decide ((i : Int) < (i : Int)) = false := by simp
   obtain ⟨e, he⟩ : ∃ e : Nat, (nn : Int) - i = e := ⟨nn - i, by omega⟩
   have e1 : m ≤ e := by omega
   have e2 : e ≤ b := by omega
   have e3 : i ≤ m := by omega
   have e4 : Hid (mid = i + (e - m)) := Lib.hid (by omega)
   have e5 : Hid (nn - i = e) := Lib.hid (by omega)
   have HX : Hid (i = a ∨ e = b ∨ tl (ltOf cf) idx d[e]! d[i - 1]! = false) := Lib.hid (by
    rcases H1.out with h | h
    ·have := HLO.out; left; omega
    ·rw [e5.out] at h; exact .inr (.inr h))
   have HY : Hid (i = m ∨ e = m ∨ tl (ltOf cf) idx d[e - 1]! d[i]! = true) := Lib.hid (by
    rcases H2.out with h | h
    ·have := HHI.out; left; omega
    ·rw [e5.out] at h; exact .inr (.inr h))
   clear H1 H2
   go_upto_region 39 with fail
   go_cut [185] from 178 to 185 (fun c wx => c = .bool (decide (i < m ∧ m < e)) ∧ Aside (SW enc w0 blk off d wx))
   case first =>
    by_cases c1 : i < m
    ·have c1z : (i : Int) < (m : Int) := by omega
     by_cases c2 : m < e
     ·have c2z : (m : Int) < (e : Int) := by omega
      go_wp2_with fail
      go_meet
      exact ⟨congrArg Value.bool (decide_eq_true (p := i < m ∧ m < e) (by omega)).symm, S1⟩
     ·have c2z : decide ((m : Int) < (e : Int)) = false := decide_eq_false (by omega)
      go_wp2_with fail
      go_meet
      exact ⟨congrArg Value.bool (decide_eq_false (p := i < m ∧ m < e) (by omega)).symm, S1⟩
    ·have c1z : decide ((i : Int) < (m : Int)) = false := decide_eq_false (by omega)
     go_wp2_with fail
     go_meet
     exact ⟨congrArg Value.bool (decide_eq_false (p := i < m ∧ m < e) (by omega)).symm, S1⟩
   case rest =>
   clear S1
   obtain ⟨rfl, S1⟩ := hcut
   go_upto_if 185 with fail
   go_cut [] from 185 to 191 (fun wx => ∃ d1 : Array α, Aside (SW enc w0 blk off d1 wx) ∧ Hid (rotated d d1 i m e) ∧ Hid (PermIn a b d d1))
   case first =>
    by_cases c1 : i < m ∧ m < e
    ·have c1z : decide (i < m ∧ m < e) = true := decide_eq_true c1
     have hrot := st_rotate R g cb cap a b i m e d _ hs S1.out c1.1 c1.2 (by omega) (by omega) (by omega) hsz
     have HROT := Lib.hid hrot
     clear hrot
     go_wp2_with (go_at_call 53; refine HROT.out.mono ?_; rintro ex w' ⟨rfl, d1, S5, hro, hpe⟩)
     go_meet
     exact ⟨d1, S5, Lib.hid hro, Lib.hid hpe⟩
    ·have c1z : decide (i < m ∧ m < e) = false := decide_eq_false c1
     go_wp2_with fail
     go_meet
     exact ⟨d, S1, Lib.hid (rotated.none (by omega) (by omega) (by omega)), Lib.hid (permIn_refl _ _ _)⟩
   case rest =>
   clear S1
   obtain ⟨d1, S1, HRO, HP1⟩ := hcut
   have hd1 : d1.size = d.size := HP1.out.1
   obtain ⟨q1, q2, q3, q4, hcr⟩ := rot_parts (tl_swo HSW.out) e4.out (by omega) (by omega) (by omega) (by omega) HLf.out HR.out HRO.out HX.out HY.out
   obtain ⟨l1, l2⟩ := rot_low e4.out (by omega) (by omega) (by omega) (by omega) HLo.out HRO.out
   have Q1 := Lib.hid q1
   have Q2 := Lib.hid q2
   have Q3 := Lib.hid q3
   have Q4 := Lib.hid q4
   have HCR := Lib.hid hcr
   have L1 := Lib.hid l1
   have L2 := Lib.hid l2
   have e6 : i ≤ mid := by have := e4.out; omega
   have e7 : mid ≤ e := by have := e4.out; omega
   clear q1 q2 q3 q4 hcr l1 l2 HX HY
   go_upto_region 41 with fail
   go_cut [199] from 192 to 199 (fun c wx => c = .bool (decide (a < i ∧ i < mid)) ∧ Aside (SW enc w0 blk off d1 wx))
   case first =>
    by_cases c1 : a < i
    ·have c1z : (a : Int) < (i : Int) := by omega
     by_cases c2 : i < mid
     ·have c2z : (i : Int) < (mid : Int) := by omega
      go_wp2_with fail
      go_meet
      exact ⟨congrArg Value.bool (decide_eq_true (p := a < i ∧ i < mid) (by omega)).symm, S1⟩
     ·have c2z : decide ((i : Int) < (mid : Int)) = false := decide_eq_false (by omega)
      go_wp2_with fail
      go_meet
      exact ⟨congrArg Value.bool (decide_eq_false (p := a < i ∧ i < mid) (by omega)).symm, S1⟩
    ·have c1z : decide ((a : Int) < (i : Int)) = false := decide_eq_false (by omega)
     go_wp2_with fail
     go_meet
     exact ⟨congrArg Value.bool (decide_eq_false (p := a < i ∧ i < mid) (by omega)).symm, S1⟩
   case rest =>
   clear S1
   obtain ⟨rfl, S1⟩ := hcut
   go_upto_if 199 with fail
   go_cut [] from 199 to 205 (fun wx => ∃ d2 : Array α, Aside (SW enc w0 blk off d2 wx) ∧ Hid (PermIn a mid d1 d2) ∧ Hid (SortedIn (tl (ltOf cf) idx) a mid d2))
   case first =>
    by_cases c1 : a < i ∧ i < mid
    ·have c1z : decide (a < i ∧ i < mid) = true := decide_eq_true c1
     have hrot := HIH.out a i mid d1 _ (by omega) (by omega) S1.out (by omega) (by omega) (by omega) Q1.out Q2.out L1.out
     rw [hd1] at hrot
     have HROT := Lib.hid hrot
     clear hrot
     go_wp2_with (go_at_call 52; refine HROT.out.mono ?_; rintro ex w' ⟨rfl, d2, S5, hpe, hso⟩)
     go_meet
     exact ⟨d2, S5, Lib.hid hpe, Lib.hid hso⟩
    ·have c1z : decide (a < i ∧ i < mid) = false := decide_eq_false c1
     go_wp2_with fail
     go_meet
     refine ⟨d1, S1, Lib.hid (permIn_refl _ _ _), Lib.hid ?_⟩
     by_cases c2 : i = a
     ·rw [← c2]; exact Q2.out
     ·rw [show mid = i by omega]; exact Q1.out
   case rest =>
   clear S1
   obtain ⟨d2, S1, HP2, HQ⟩ := hcut
   have hd2 : d2.size = d1.size := HP2.out.1
   have hd3 : d2.size = d.size := by omega
   replace Q3 := Lib.hid (sorted_keep HP2.out (by omega) Q3.out)
   replace Q4 := Lib.hid (sorted_keep HP2.out (by omega) Q4.out)
   replace L2 := Lib.hid (low_keep HP2.out (by omega) (by omega) L2.out)
   go_upto_region 43 with fail
   go_cut [213] from 206 to 213 (fun c wx => c = .bool (decide (mid < e ∧ e < b)) ∧ Aside (SW enc w0 blk off d2 wx))
   case first =>
    by_cases c1 : mid < e
    ·have c1z : (mid : Int) < (e : Int) := by omega
     by_cases c2 : e < b
     ·have c2z : (e : Int) < (b : Int) := by omega
      go_wp2_with fail
      go_meet
      exact ⟨congrArg Value.bool (decide_eq_true (p := mid < e ∧ e < b) (by omega)).symm, S1⟩
     ·have c2z : decide ((e : Int) < (b : Int)) = false := decide_eq_false (by omega)
      go_wp2_with fail
      go_meet
      exact ⟨congrArg Value.bool (decide_eq_false (p := mid < e ∧ e < b) (by omega)).symm, S1⟩
    ·have c1z : decide ((mid : Int) < (e : Int)) = false := decide_eq_false (by omega)
     go_wp2_with fail
     go_meet
     exact ⟨congrArg Value.bool (decide_eq_false (p := mid < e ∧ e < b) (by omega)).symm, S1⟩
   case rest =>
   clear S1
   obtain ⟨rfl, S1⟩ := hcut
   have HPP : ∀ d3 : Array α, PermIn mid b d2 d3 → SortedIn (tl (ltOf cf) idx) mid b d3 → PermIn a b d d3 ∧ SortedIn (tl (ltOf cf) idx) a b d3 := fun d3 h1 h2 => by
    have h := mrg_join (by omega) (by omega) (by omega) HCR.out HP2.out HQ.out h1 h2
    exact ⟨permIn_trans _ _ _ _ _ HP1.out h.1, h.2⟩
   have HPP2 := Lib.hid HPP
   clear HPP
   by_cases c1 : mid < e ∧ e < b
   ·have c1z : decide (mid < e ∧ e < b) = true := decide_eq_true c1
    have hrot := HIH.out mid e b d2 _ (by omega) (by omega) S1.out (by omega) (by omega) (by omega) Q3.out Q4.out L2.out
    rw [hd3] at hrot
    have HROT := Lib.hid hrot
    clear hrot
    go_wp2_with (go_at_call 52; refine HROT.out.mono ?_; rintro ex w' ⟨rfl, d3, S5, hpe, hso⟩)
    go_end0
    exact ⟨rfl, d3, S5, HPP2.out d3 hpe hso⟩
   ·have c1z : decide (mid < e ∧ e < b) = false := decide_eq_false c1
    have hso : Hid (SortedIn (tl (ltOf cf) idx) mid b d2) := Lib.hid (by
     by_cases c2 : e = mid
     ·rw [← c2]; exact Q4.out
     ·rw [show b = e by omega]; exact Q3.out)
    go_wp2_with fail
    go_end0
    exact ⟨rfl, d2, S1.out, HPP2.out d2 (permIn_refl _ _ _) hso.out⟩
end Go.Proofs.Ytocojbkhdijjeaa
namespace Go.Proofs
open Go.Shelf
def Try.lays215_ren : Go.Shelf.Ren := ⟨fun | 215 => 50 | n => n, fun | 3 => 3 | 4 => 4 | n => n, fun | n => n⟩
def Try.lays122_ren : Go.Shelf.Ren := ⟨fun | 122 => 46 | 215 => 50 | n => n, fun | 3 => 3 | 4 => 4 | n => n, fun | n => n⟩
theorem Try.lays122 : Go.Proofs.Lays.n122 Try.prog Try.lays122_ren := {
 mixed := by kernel_rfl
 f122 := Try.func46.trans (congrArg some (by kernel_rfl))
 f215 := Try.func50.trans (congrArg some (by kernel_rfl))
 t3 := Try.underlying3
 a3 := Try.isAgg3
 z3 := Try.sizeOf3
 v3 := Try.zeroValue3
 t4 := Try.underlying4
 a4 := Try.isAgg4
 z4 := Try.sizeOf4
 v4 := Try.zeroValue4 }
open Go.RowKit in
theorem Try.cmp_Compare_int (x y : Int) (w : World) :
  Calls Try.prog 46 #[.int .i64 x, .int .i64 y] w fun e w' => e = .returned (.int .i64 (Lib.compareInt x y)) ∧ w' = w := Any.cmp_Compare_int Try.lays122 x y w
def Try.laysSlF20_f51_ren : Go.Shelf.Ren := ⟨fun | 20 => 51 | n => n, fun | 24 => 3 | 22 => 22 | 3 => 3 | 25 => 54 | 4 => 4 | 0 => 0 | n => n, fun | n => n⟩
theorem Try.laysSlF20_f51 : Go.Proofs.SlLaysF.n20 Try.prog Try.laysSlF20_f51_ren := {
 mixed := by kernel_rfl
 f20 := ⟨Try.f51.name, by decide, Try.func51.trans (congrArg some (by kernel_rfl))⟩
 t0 := Try.underlying0
 a0 := Try.isAgg0
 z0 := Try.sizeOf0
 v0 := Try.zeroValue0
 t3 := Try.underlying3
 a3 := Try.isAgg3
 z3 := Try.sizeOf3
 v3 := Try.zeroValue3
 t4 := Try.underlying4
 a4 := Try.isAgg4
 z4 := Try.sizeOf4
 v4 := Try.zeroValue4
 t22 := Try.underlying22
 a22 := Try.isAgg22
 z22 := Try.sizeOf22
 v22 := Try.zeroValue22
 a24 := Try.isAgg3
 z24 := Try.sizeOf3
 t25 := Try.underlying54
 a25 := Try.isAgg54
 z25 := Try.sizeOf54
 v25 := Try.zeroValue54 }
open Go.RowKit Go.Lib Go.Sort in
theorem Try.insertionSortCmpFunc_s {α : Type} [Inhabited α] (enc : α → Value) (cf : α → α → Int) (g : Nat) (cb : Array Value) (blk off cap a b : Nat) (d0 d : Array α) (w0 w : World) (eg : ∀ args w, (callFunc g args).run Try.prog w = .ok (.enter g args) w) (hcmp : CmpLays1 Try.prog g cb enc cf blk off d0.size w0) (R : Row1 enc w0 blk off d0) (hs : d0.size = d.size) (S : SW enc w0 blk off d w) (hab : a ≤ b) (hb : b ≤ d.size) (hsz : d.size < 4611686018427387904) :
  Calls Try.prog 51 #[.slice (some ⟨blk, off, none⟩) d.size cap, .int .i64 a, .int .i64 b, .func (.func g) #[] cb] w fun e w' => e = .returned (.tuple #[]) ∧ SW enc w0 blk off (Sort.insertionSort (ltOf cf) d a b) w' := Any.insertionSortCmpFunc_s Try.laysSlF20_f51 enc cf g cb blk off cap a b d0 d w0 w eg hcmp R hs S hab hb hsz
end Go.Proofs
namespace Go.Proofs.Ytocojbkhdijjeaa
open Go.Shelf Go.RowKit Go.Lib Go.Sort
variable {α : Type} [Inhabited α] {enc : α → Value} {w0 : World} {blk off : Nat} {d0 : Array α}
theorem st_merge (R : Row1 enc w0 blk off d0) (cf : α → α → Int) (hS : SWO (ltOf cf)) (idx : α → Nat) (g : Nat) (cb : Array Value) (eg : ∀ args w, (callFunc g args).run Try.prog w = .ok (.enter g args) w) (hcmp : CmpLays1 Try.prog g cb enc cf blk off d0.size w0) (cap : Nat) (hsz : d0.size < 4611686018427387904) :
  ∀ (N a m b : Nat) (d : Array α) (w : World), b - a ≤ N → d0.size = d.size → SW enc w0 blk off d w → a < m → m < b → b ≤ d.size → SortedIn (tl (ltOf cf) idx) a m d → SortedIn (tl (ltOf cf) idx) m b d → lowIn idx a m b d → MrgOk enc w0 blk off (tl (ltOf cf) idx) g cb cap a m b d w
 | 0, a, m, b, d, w, hN, _, _, h1, h2, _, _, _, _ => by omega
 | N + 1, a, m, b, d, w, hN, hs, S, h1, h2, hb, hl, hr, hL => by
  by_cases c1 : m = a + 1
  ·exact st_mergeA R cf hS idx g cb eg hcmp cap a m b d w hs S c1 h2 hb (by omega) hr hL
  ·by_cases c2 : b = m + 1
   ·exact st_mergeB R cf hS idx g cb eg hcmp cap a m b d w hs S (by omega) c2 hb (by omega) hl hL
   ·have ih := fun (a2 m2 b2 : Nat) (d2 : Array α) (w2 : World) (h : b2 - a2 < b - a) => st_merge R cf hS idx g cb eg hcmp cap hsz N a2 m2 b2 d2 w2 (by omega)
    have hmid : ((a : Int) + b) / 2 = ((a + b) / 2 : Nat) := by omega
    by_cases c3 : (a + b) / 2 < m
    ·exact st_mergeC1 R cf hS idx g cb eg hcmp cap a m b _ d w ih hs S (by omega) (by omega) hb (by omega) hl hr hL hmid c3
    ·exact st_mergeC2 R cf hS idx g cb eg hcmp cap a m b _ d w ih hs S (by omega) (by omega) hb (by omega) hl hr hL hmid (by omega)
theorem blk_le {j i s : Nat} (h : j < i) : j * s + s ≤ i * s := by
 have := Nat.mul_le_mul_right s (show j + 1 ≤ i by omega)
 rw [Nat.succ_mul] at this; exact this
set_option maxHeartbeats 8000000 in
set_option maxRecDepth 100000 in
theorem st_stable (R : Row1 enc w0 blk off d0) (cf : α → α → Int) (hS : SWO (ltOf cf)) (idx : α → Nat) (g : Nat) (cb : Array Value) (eg : ∀ args w, (callFunc g args).run Try.prog w = .ok (.enter g args) w) (hcmp : CmpLays1 Try.prog g cb enc cf blk off d0.size w0) (cap n : Nat) (hn : d0.size = n) (hsz : n < 1000000000) (hid : ∀ p, p < n → idx d0[p]! = p) (w : World) (S : SW enc w0 blk off d0 w) :
  Calls Try.prog 49 #[.slice (some ⟨blk, off, none⟩) n cap, .int .i64 n, .func (.func g) #[] cb] w fun e w' => e = .returned (.tuple #[]) ∧ ∃ d' : Array α, SW enc w0 blk off d' w' ∧ PermIn 0 n d0 d' ∧ SortedIn (tl (ltOf cf) idx) 0 n d' := by
 have hcl0 := R.hO.cells
 simp only [Value.cells] at hcl0
 have hst := R.hO.store Try.prog
 have mixed : Try.prog.follows .mixedOrders = true := by kernel_rfl
 have S0 : Aside (SW enc w0 blk off d0 w) := S
 have hins := fun a b d w h1 h2 h3 h4 => Try.insertionSortCmpFunc_s enc cf g cb blk off cap a b d0 d w0 w eg hcmp R h1 h2 h3 h4
 have hmrg := fun a m b d w => st_merge R cf hS idx g cb eg hcmp cap (by omega) (b - a) a m b d w (Nat.le_refl _)
 unfold MrgOk at hmrg
 have HINS := Lib.hid hins
 have HMRG := Lib.hid hmrg
 have HSW := Lib.hid hS
 have HID := Lib.hid hid
 have HN := Lib.hid hn
 clear S hcmp hS hins hmrg hid hn
 go_enter Try.func49, Try.ntmps49
 go_wp2_with fail
 go_loopg [7, 8] n (fun kx sa sb wr => ∃ (k a b : Nat) (dk : Array α), sa = .int .i64 a ∧ sb = .int .i64 b ∧ Hid (a = k * 20) ∧ b = a + 20 ∧ a ≤ n ∧ n - a ≤ kx ∧ Aside (SW enc w0 blk off dk wr) ∧ Hid (∀ j, j < k → stBlk (tl (ltOf cf) idx) idx 20 n j dk) ∧ Hid (∀ p, a ≤ p → dk[p]! = d0[p]!) ∧ Hid (PermIn 0 n d0 dk))
 case atStart => exact ⟨0, 0, 20, d0, rfl, rfl, Lib.hid (by omega), rfl, by omega, by omega, S0, Lib.hid (fun j h => by omega), Lib.hid (fun p _ => rfl), Lib.hid (permIn_refl _ _ _)⟩
 case round =>
  clear S0
  obtain ⟨k, a, b, dk, rfl, rfl, HA, hb, han, hkx, S1, HB, HT, HP⟩ := hrel
  have hds : Hid (dk.size = n) := Lib.hid (HP.out.1.trans HN.out)
  have HB2 := Lib.hid hb
  have hab : a < b := by omega
  clear hb
  have hmono : ∀ b', b' ≤ n → ∀ p q, a ≤ p → p < q → q < b' → idx dk[p]! < idx dk[q]! := fun b' hb' p q h1 h2 h3 => by
   rw [HT.out p h1, HT.out q (by omega), HID.out p (by omega), HID.out q (by omega)]; exact h2
  by_cases hlt : b ≤ n
  ·have hltz : (b : Int) ≤ (n : Int) := by omega
   have hcon := HINS.out a b dk _ (HN.out.trans hds.out.symm) S1.out (by omega) (by rw [hds.out]; exact hlt) (by rw [hds.out]; omega)
   obtain ⟨hp2, hso⟩ := ins_tl (idx := idx) HSW.out dk a b (by omega) (by rw [hds.out]; exact hlt) (hmono b hlt)
   generalize Sort.insertionSort (ltOf cf) dk a b = d2 at *
   rw [hds.out] at hcon
   have HCON := Lib.hid hcon
   have HP2 := Lib.hid hp2
   have HSO := Lib.hid hso
   clear hcon hp2 hso S1 hmono
   go_wp2_with (go_at_call 51; refine HCON.out.mono ?_; rintro e w' ⟨rfl, S2⟩)
   have S3 : Aside (SW enc w0 blk off d2 w') := S2
   clear S2
   go_roundg (n - b)
   case measure => have := HB2.out; omega
   case rel =>
    have hbb := HB2.out
    refine ⟨k + 1, b, b + 20, d2, rfl, by go_num, Lib.hid ?_, rfl, hlt, Nat.le_refl _, S3, Lib.hid ?_, Lib.hid ?_, Lib.hid ?_⟩
    ·have := HA.out; rw [Nat.succ_mul]; omega
    ·intro j hj
     by_cases c : j = k
     ·subst c
      exact stBlk.ins HA.out (by have := HA.out; omega) (by rw [hds.out]; exact hlt) (fun p h1 h2 => by rw [HT.out p h1, HID.out p (by omega)]) HP2.out HSO.out
     ·exact (HB.out j (by omega)).keep HP2.out (.inl (by have := blk_le (s := 20) (show j < k by omega); have := HA.out; omega))
    ·intro p hp; rw [HP2.out.2.1 p (.inr hp), HT.out p (by omega)]
    ·exact permIn_trans _ _ _ _ _ HP.out (permIn_mono _ _ a b 0 n (by omega) hlt (by rw [hds.out]; exact Nat.le_refl _) HP2.out)
  ·have hltz : ¬ (b : Int) ≤ (n : Int) := by omega
   have hcon := HINS.out a n dk _ (HN.out.trans hds.out.symm) S1.out (by omega) (by rw [hds.out]; exact Nat.le_refl _) (by rw [hds.out]; omega)
   obtain ⟨hp2, hso⟩ := ins_tl (idx := idx) HSW.out dk a n (by omega) (by rw [hds.out]; exact Nat.le_refl _) (hmono n (Nat.le_refl _))
   generalize Sort.insertionSort (ltOf cf) dk a n = d2 at *
   rw [hds.out] at hcon
   have hall : ∀ j, stBlk (tl (ltOf cf) idx) idx 20 n j d2 := fun j => by
    rcases Nat.lt_trichotomy j k with c | c | c
    ·exact (HB.out j c).keep hp2 (.inl (by have := blk_le (s := 20) c; have := HA.out; omega))
    ·subst c
     exact stBlk.ins HA.out (by have := HA.out; have := HB2.out; omega) (by rw [hds.out]; exact Nat.le_refl _) (fun p h1 h2 => by rw [HT.out p h1, HID.out p h2]) hp2 hso
    ·exact stBlk.none (by have := blk_le (s := 20) c; have := HA.out; have := HB2.out; omega)
   have hpp := permIn_trans _ _ _ _ _ HP.out (permIn_mono _ _ a n 0 n (by omega) (Nat.le_refl _) (by rw [hds.out]; exact Nat.le_refl _) hp2)
   have HCON := Lib.hid hcon
   have HALL := Lib.hid hall
   have HPP := Lib.hid hpp
   clear hcon hp2 hso S1 hmono hall hpp HB HT HP
   go_wp2_with (go_at_call 51; refine HCON.out.mono ?_; rintro e w' ⟨rfl, S2⟩)
   have S3 : Aside (SW enc w0 blk off d2 w') := S2
   clear S2
   go_loopg [6, 7, 8, 9] (n + n) (fun kx ss sa sb sm wr => ∃ (s : Nat) (dk : Array α), ss = .int .i64 s ∧ 0 < s ∧ s ≤ n + n + 20 ∧ n + n - s ≤ kx ∧ Aside (SW enc w0 blk off dk wr) ∧ Hid (∀ j, stBlk (tl (ltOf cf) idx) idx s n j dk) ∧ Hid (PermIn 0 n d0 dk))
   case atStart => exact ⟨20, d2, rfl, by omega, by omega, by omega, S3, HALL, HPP⟩
   case round =>
    clear S3 HALL HPP HCON
    obtain ⟨s, dk, rfl, hs0, hs1, hkx, S1, HALL, HP⟩ := hrel
    by_cases hlt : s < n
    ·have hltz2 : (s : Int) < (n : Int) := by omega
     obtain ⟨b0, hb0⟩ : ∃ b0 : Nat, 2 * (s : Int) = b0 := ⟨2 * s, by omega⟩
     have hb0n : b0 = 2 * s := by omega
     have HB0 := Lib.hid hb0n
     clear hb0n
     go_wp2_with fail
     have S4 : Aside (SW enc w0 blk off dk wr) := S1
     clear S1
     go_loopg [7, 8] n (fun kx sa sb wr => ∃ (i a b : Nat) (dk : Array α), sa = .int .i64 a ∧ sb = .int .i64 b ∧ Hid (a = i * (2 * s)) ∧ b = a + b0 ∧ a ≤ n ∧ n - a ≤ kx ∧ Aside (SW enc w0 blk off dk wr) ∧ Hid (∀ j, j < i → stBlk (tl (ltOf cf) idx) idx (2 * s) n j dk) ∧ Hid (∀ j, 2 * i ≤ j → stBlk (tl (ltOf cf) idx) idx s n j dk) ∧ Hid (PermIn 0 n d0 dk))
     case atStart => exact ⟨0, 0, b0, dk, rfl, rfl, Lib.hid (by omega), by omega, by omega, by omega, S4, Lib.hid (fun j h => by omega), Lib.hid (fun j _ => HALL.out j), HP⟩
     case round =>
      clear S4 HALL HP
      obtain ⟨i, a, b, dk, rfl, rfl, HA, hb, han, hkx2, S1, HD, HU, HP⟩ := hrel
      have hds : Hid (dk.size = n) := Lib.hid (HP.out.1.trans HN.out)
      have HB2 := Lib.hid hb
      have hab : a + s < b := by have := HB0.out; omega
      clear hb
      obtain ⟨m, hm⟩ : ∃ m : Nat, (a : Int) + s = m := ⟨a + s, by omega⟩
      have hmn : Hid (m = a + s) := Lib.hid (by omega)
      have ham : a < m := by omega
      have hmb : m < b := by omega
      by_cases hlt2 : b ≤ n
      ·have hltz3 : (b : Int) ≤ (n : Int) := by omega
       obtain ⟨h1, h2, h3⟩ := stBlk.halves (e := b) HA.out (by have := HB0.out; have := HB2.out; omega) hab (HU.out (2 * i) (Nat.le_refl _)) (HU.out (2 * i + 1) (by omega))
       rw [← hmn.out] at h1 h2 h3
       have hcon := HMRG.out a m b dk _ (HN.out.trans hds.out.symm) S1.out ham hmb (by rw [hds.out]; exact hlt2) h1 h2 h3
       rw [hds.out] at hcon
       have HCON := Lib.hid hcon
       clear hcon h1 h2 h3
       go_wp2_with (go_at_call 52; refine HCON.out.mono ?_; rintro e w' ⟨rfl, d2, S2, hp2, hso⟩)
       have S3 : Aside (SW enc w0 blk off d2 w') := S2
       have HP2 := Lib.hid hp2
       have HSO := Lib.hid hso
       clear S2 S1 hp2 hso
       obtain ⟨b2, hb2⟩ : ∃ b2 : Nat, (b : Int) + b0 = b2 := ⟨b + b0, by omega⟩
       go_roundg (n - b)
       case measure => have := HB2.out; omega
       case rel =>
        have hbb := HB2.out
        have hb0' := HB0.out
        refine ⟨i + 1, b, b2, d2, rfl, by first | rfl | go_num | rw [hb2], Lib.hid ?_, by omega, hlt2, Nat.le_refl _, S3, Lib.hid ?_, Lib.hid ?_, Lib.hid ?_⟩
        ·have := HA.out; rw [Nat.succ_mul]; omega
        ·intro j hj
         by_cases c : j = i
         ·subst c
          exact stBlk.whole HA.out (by omega) (by rw [hds.out]; exact hlt2) (HU.out (2 * j) (Nat.le_refl _)) (HU.out (2 * j + 1) (by omega)) HP2.out HSO.out
         ·exact (HD.out j (by omega)).keep HP2.out (.inl (by have := blk_le (s := 2 * s) (show j < i by omega); have := HA.out; omega))
        ·intro j hj
         refine (HU.out j (by omega)).keep HP2.out (.inr ?_)
         have h5 := Nat.mul_le_mul_right s hj
         have h6 := (stBlk_two (i + 1) s).1
         rw [Nat.succ_mul i (2 * s)] at h6
         have := HA.out
         omega
        ·exact permIn_trans _ _ _ _ _ HP.out (permIn_mono _ _ a b 0 n (by omega) hlt2 (by rw [hds.out]; exact Nat.le_refl _) HP2.out)
      ·have hltz3 : ¬ (b : Int) ≤ (n : Int) := by omega
       have hrest : ∀ (d2 : Array α), stBlk (tl (ltOf cf) idx) idx (2 * s) n i d2 → (∀ j, j < i → stBlk (tl (ltOf cf) idx) idx (2 * s) n j d2) → ∀ j, stBlk (tl (ltOf cf) idx) idx (2 * s) n j d2 := fun d2 h1 h2 j => by
        rcases Nat.lt_trichotomy j i with c | c | c
        ·exact h2 j c
        ·rw [c]; exact h1
        ·exact stBlk.none (by have := blk_le (s := 2 * s) c; have := HA.out; have := HB2.out; have := HB0.out; omega)
       have HREST := Lib.hid hrest
       clear hrest
       obtain ⟨s2, hs2⟩ : ∃ s2 : Nat, (s : Int) * 2 = s2 := ⟨s * 2, by omega⟩
       have hs2n : Hid (s2 = 2 * s) := Lib.hid (by omega)
       by_cases hlt4 : m < n
       ·have hltz4 : (m : Int) < (n : Int) := by omega
        obtain ⟨h1, h2, h3⟩ := stBlk.halves (e := n) HA.out (by have := HB0.out; have := HB2.out; omega) (by omega) (HU.out (2 * i) (Nat.le_refl _)) (HU.out (2 * i + 1) (by omega))
        rw [← hmn.out] at h1 h2 h3
        have hcon := HMRG.out a m n dk _ (HN.out.trans hds.out.symm) S1.out ham hlt4 (by rw [hds.out]; exact Nat.le_refl _) h1 h2 h3
        rw [hds.out] at hcon
        have HCON := Lib.hid hcon
        clear hcon h1 h2 h3
        go_wp2_with (go_at_call 52; refine HCON.out.mono ?_; rintro e w' ⟨rfl, d2, S2, hp2, hso⟩)
        have S3 : Aside (SW enc w0 blk off d2 w') := S2
        have HP2 := Lib.hid hp2
        have HSO := Lib.hid hso
        clear S2 S1 hp2 hso
        go_roundg (n + n - s2)
        case measure => have := hs2n.out; omega
        case rel =>
         have hbb := HB2.out
         have hb0' := HB0.out
         have hs2' := hs2n.out
         refine ⟨s2, d2, by first | rfl | go_num | rw [hs2], by omega, by omega, Nat.le_refl _, S3, Lib.hid ?_, Lib.hid ?_⟩
         ·rw [hs2']
          exact HREST.out d2 (stBlk.whole HA.out (by omega) (by rw [hds.out]; exact Nat.le_refl _) (HU.out (2 * i) (Nat.le_refl _)) (HU.out (2 * i + 1) (by omega)) HP2.out HSO.out) fun j hj => (HD.out j hj).keep HP2.out (.inl (by have := blk_le (s := 2 * s) hj; have := HA.out; omega))
         ·exact permIn_trans _ _ _ _ _ HP.out (permIn_mono _ _ a n 0 n (by omega) (Nat.le_refl _) (by rw [hds.out]; exact Nat.le_refl _) HP2.out)
       ·have hltz4 : ¬ (m : Int) < (n : Int) := by omega
        go_wp2_with fail
        have S3 : Aside (SW enc w0 blk off dk wr) := S1
        clear S1
        go_roundg (n + n - s2)
        case measure => have := hs2n.out; omega
        case rel =>
         have hs2' := hs2n.out
         refine ⟨s2, dk, by first | rfl | go_num | rw [hs2], by omega, by omega, Nat.le_refl _, S3, Lib.hid ?_, HP⟩
         rw [hs2']
         exact HREST.out dk (stBlk.half (by have := HA.out; have := hmn.out; omega) (HU.out (2 * i) (Nat.le_refl _))) HD.out
    ·have hltz2 : ¬ (s : Int) < (n : Int) := by omega
     go_wp2_with fail
     go_end0
     exact ⟨rfl, dk, S1.out, HP.out, stBlk.all (by omega) (HALL.out 0)⟩
set_option maxHeartbeats 1000000 in
theorem st_sort (R : Row1 enc w0 blk off d0) (cf : α → α → Int) (hS : SWO (ltOf cf)) (idx : α → Nat) (g : Nat) (cb : Array Value) (eg : ∀ args w, (callFunc g args).run Try.prog w = .ok (.enter g args) w) (hcmp : CmpLays1 Try.prog g cb enc cf blk off d0.size w0) (cap n : Nat) (hn : d0.size = n) (hsz : n < 1000000000) (hid : ∀ p, p < n → idx d0[p]! = p) :
  Calls Try.prog 44 #[.slice (some ⟨blk, off, none⟩) n cap, .func (.func g) #[] cb] w0 fun e w' => e = .returned (.tuple #[]) ∧ ∃ d' : Array α, SW enc w0 blk off d' w' ∧ PermIn 0 n d0 d' ∧ SortedIn (tl (ltOf cf) idx) 0 n d' := by
 have hcon := st_stable R cf hS idx g cb eg hcmp cap n hn hsz hid w0 (SW.start R.hH)
 have HC := Lib.hid hcon
 clear hcon hcmp hS hid
 go_enter Try.func44, Try.ntmps44
 go_wp2_with (go_at_call 49; refine HC.out.mono ?_; rintro e w' ⟨rfl, h⟩)
 go_end0
 exact ⟨rfl, h⟩
open Go.RowKit
def IntsAt (k : IntKind) (w : World) (A : Option Addr) (zs : List Int) : Prop := 0 < zs.length → ∃ b off, A = some ⟨b, off, none⟩ ∧ b < w.heap.size ∧ ∀ i, i < zs.length → w.cell? ⟨b, off + i, none⟩ = some (.int k (zs.getD i 0))
def OwnI (k : IntKind) (e : TypeId) (w : World) (base : Nat) (v : Value) (L : List Int) : Prop := w.ownsRow base e 1 v L.length (L.map fun d => Value.int k d)
section
variable {k : IntKind} {e : TypeId} {w w' : World} {base B : Nat} {v : Value} {A : Option Addr} {L M zs : List Int}
theorem IntsAt.keep (h : IntsAt k w A zs) (hs : w.heap.size ≤ w'.heap.size) (hk : ∀ b j, b < w.heap.size → w'.cell? ⟨b, j, none⟩ = w.cell? ⟨b, j, none⟩) : IntsAt k w' A zs := fun h0 => by
 obtain ⟨b, off, e, hlt, hc⟩ := h h0
 exact ⟨b, off, e, Nat.lt_of_lt_of_le hlt hs, fun i hi => (hk b (off + i) hlt).trans (hc i hi)⟩
theorem IntsAt.up (h : IntsAt k w A zs) (hb : Below w.heap.size w w') : IntsAt k w' A zs := h.keep hb.size fun b j hB => hb.cell (p := ⟨b, j, none⟩) hB
theorem IntsAt.nil : IntsAt k w A [] := fun h => absurd h (by simp)
theorem OwnI.nil : OwnI k e w base (.slice none 0 0) [] := World.ownsRow_nil _ _ _ _
theorem OwnI.alloc (h : OwnI k e w base v L) (o : Obj) : OwnI k e (w.alloc o) base v L := World.ownsRow.alloc h o
theorem OwnI.ints (h : OwnI k e w base v L) : ∃ A c, v = .slice A L.length c ∧ IntsAt k w A L := by
 obtain ⟨h1, h2⟩ := h
 rcases h2 with ⟨rfl, h0⟩ | ⟨g, cap, cur, rfl, hbg, hg, hn, hcap, hsz, hcur⟩
 ·obtain rfl : L = [] := List.eq_nil_of_length_eq_zero h0
  exact ⟨none, 0, rfl, IntsAt.nil⟩
 ·refine ⟨_, cap, rfl, fun _ => ⟨g, 0, rfl, ?_, fun j hj => ?_⟩⟩
  ·rcases Nat.lt_or_ge g w.heap.size with hlt | hge
   ·exact hlt
   ·rw [Array.getElem?_eq_none hge] at hg; cases hg
  ·have h3 : cur.toList[j]? = some (Value.int k (L.getD j 0)) := by
    have : (cur.toList.take (L.length * 1))[j]? = some (Value.int k (L.getD j 0)) := by
     rw [hcur, List.getElem?_map, List.getElem?_eq_getElem hj, List.getD_eq_getElem?_getD, List.getElem?_eq_getElem hj]; rfl
    rw [List.getElem?_take] at this
    split at this
    ·exact this
    ·cases this
   simp only [World.cell?, hg, Nat.zero_add]
   simpa using h3
end
theorem infoI_int : (Try.prog.info? 3).map (fun i => (i.zero, i.size, i.bytes)) = some (some (.int .i64 0), 1, 8) := by kernel_rfl
open Go.RowKit
structure IB (w : World) (b : Nat) (L : List Int) : Prop where
 blk : ∃ t : TypeId, w.heap[b]? = some (.cells (L.map fun (x : Int) => Value.int .i64 x).toArray t (0, 0))
section
variable {w w' : World} {b : Nat} {L : List Int}
theorem IB.lt (h : IB w b L) : b < w.heap.size := by
 obtain ⟨t, h⟩ := h.blk
 rcases Nat.lt_or_ge b w.heap.size with hlt | hge
 ·exact hlt
 ·rw [Array.getElem?_eq_none hge] at h; cases h
theorem IB.cell (h : IB w b L) (i : Nat) (hi : i < L.length) : w.cell? ⟨b, i, none⟩ = some (.int .i64 (L.getD i 0)) := by
 obtain ⟨t, h⟩ := h.blk
 simp [World.cell?, h, hi]
theorem IB.frozen (h : IB w b L) (i : Nat) : w.frozen? ⟨b, i, none⟩ = false := by
 obtain ⟨t, h⟩ := h.blk
 simp [World.frozen?, h]
theorem IB.set (h : IB w b L) (i : Nat) (x : Int) : IB (w.setCell ⟨b, i, none⟩ (.int .i64 x)) b (L.set i x) := by
 obtain ⟨t, h⟩ := h.blk
 exact ⟨t, by simp [World.setCell, Array.getElem?_modify, h, List.map_set]⟩
theorem IB.far (h : IB w b L) {g : Nat} (hne : b ≠ g) (i : Nat) (v : Value) : IB (w.setCell ⟨g, i, none⟩ v) b L := by
 obtain ⟨t, h⟩ := h.blk
 exact ⟨t, (Below.heap_setCell w ⟨g, i, none⟩ v b hne).trans h⟩
theorem IB.up (h : IB w b L) {B : Nat} (hb : Below B w w') (hlt : b < B) : IB w' b L := by
 obtain ⟨t, h⟩ := h.blk
 exact ⟨t, (hb.block b hlt).trans h⟩
theorem IB.more (h : IB w b L) (hb : Below w.heap.size w w') : IB w' b L := h.up hb h.lt
theorem IB.drew (h : IB w b L) : IB w.drew b L := ⟨h.blk⟩
theorem IB.alloc (h : IB w b L) (o : Obj) : IB (w.alloc o) b L := h.more (below_alloc_new o)
theorem IB.zeros {t : TypeId} {n : Nat} (h : Blk .i64 t w b (List.replicate n 0)) : IB w b (List.replicate n (0 : Int)) := by
 refine ⟨t, ?_⟩
 unfold Blk at h
 rw [h]
 simp
theorem IB.ints (h : IB w b L) : IntsAt .i64 w (some ⟨b, 0, none⟩) L := fun _ => ⟨b, 0, rfl, h.lt, fun i hi => by rw [Nat.zero_add]; exact h.cell i hi⟩
end
structure TwoI (k : IntKind) (e : TypeId) (w : World) (base : Nat) (v1 v2 : Value) (L1 L2 : List Int) : Prop where
 o1 : OwnI k e w base v1 L1
 o2 : OwnI k e w base v2 L2
 ne : v1.ownBlock = none ∨ v1.ownBlock ≠ v2.ownBlock
theorem TwoI.symm {k : IntKind} {e : TypeId} {w : World} {base : Nat} {v1 v2 : Value} {L1 L2 : List Int} (h : TwoI k e w base v1 v2 L1 L2) : TwoI k e w base v2 v1 L2 L1 :=
 ⟨h.o2, h.o1, by
  rcases h.ne with h1 | h1
  ·cases h2 : v2.ownBlock with
   | none => exact .inl rfl
   | some b => right; rw [h1]; simp
  ·exact .inr (Ne.symm h1)⟩
theorem countP_le {α : Type} {p q : α → Bool} : ∀ {l : List α}, (∀ x ∈ l, p x = true → q x = true) → l.countP p ≤ l.countP q
 | [], _ => Nat.le_refl _
 | a :: l, h => by
  have ih := countP_le (l := l) fun x hx => h x (List.mem_cons_of_mem _ hx)
  have ha := h a (List.mem_cons_self ..)
  rw [List.countP_cons, List.countP_cons]
  cases hp : p a with
  | false => simp; split <;> omega
  | true => rw [ha hp]; simp; exact ih
theorem countP_lt {α : Type} {p q : α → Bool} : ∀ {l : List α}, (∀ x ∈ l, p x = true → q x = true) → (∃ x ∈ l, p x = false ∧ q x = true) → l.countP p < l.countP q
 | [], _, h => by obtain ⟨x, hx, _⟩ := h; cases hx
 | a :: l, h, he => by
  have ih := countP_le (l := l) fun x hx => h x (List.mem_cons_of_mem _ hx)
  have ha := h a (List.mem_cons_self ..)
  rw [List.countP_cons, List.countP_cons]
  obtain ⟨x, hx, h1, h2⟩ := he
  rcases List.mem_cons.1 hx with rfl | hx
  ·rw [h1, h2]; simp; omega
  ·have ih2 := countP_lt (l := l) (fun y hy => h y (List.mem_cons_of_mem _ hy)) ⟨x, hx, h1, h2⟩
   cases hp : p a with
   | false => simp; split <;> omega
   | true => rw [ha hp]; simp; omega
def bt (R : List Int) (j i : Nat) : Bool := decide (R.getD i 0 < R.getD j 0) || (decide (R.getD j 0 = R.getD i 0) && decide (j < i))
theorem bt_true {R : List Int} {j i : Nat} : bt R j i = true ↔ R.getD i 0 < R.getD j 0 ∨ (R.getD j 0 = R.getD i 0 ∧ j < i) := by simp [bt]
theorem bt_false {R : List Int} {j i : Nat} : bt R j i = false ↔ ¬ (R.getD i 0 < R.getD j 0 ∨ (R.getD j 0 = R.getD i 0 ∧ j < i)) := by rw [← bt_true, Bool.not_eq_true]
theorem bt_trans {R : List Int} {a b c : Nat} (h : bt R a b = true) (h2 : bt R b c = true) : bt R a c = true := by rw [bt_true] at *; omega
theorem bt_asymm {R : List Int} {a b : Nat} (h : bt R a b = true) : bt R b a = false := by rw [bt_true] at h; rw [bt_false]; omega
theorem bt_self {R : List Int} {a : Nat} : bt R a a = false := by rw [bt_false]; omega
theorem bt_tri {R : List Int} {a b : Nat} (h : a ≠ b) : bt R a b = true ∨ bt R b a = true := by rw [bt_true, bt_true]; omega
def rk (R : List Int) (i : Nat) : Nat := (List.range R.length).countP fun j => bt R j i
theorem rk_lt {R : List Int} {a b : Nat} (ha : a < R.length) (h : bt R a b = true) : rk R a < rk R b :=
 countP_lt (fun _ _ hx => bt_trans hx h) ⟨a, List.mem_range.2 ha, bt_self, h⟩
theorem rk_inj {R : List Int} {a b : Nat} (ha : a < R.length) (hb : b < R.length) (h : rk R a = rk R b) : a = b := by
 rcases Nat.lt_trichotomy a b with c | c | c
 ·rcases bt_tri (R := R) (show a ≠ b by omega) with h1 | h1
  ·have := rk_lt ha h1; omega
  ·have := rk_lt hb h1; omega
 ·exact c
 ·rcases bt_tri (R := R) (show a ≠ b by omega) with h1 | h1
  ·have := rk_lt ha h1; omega
  ·have := rk_lt hb h1; omega
theorem order_rk {R : List Int} {O : List Nat} (hp : O.Perm (List.range R.length)) (hs : O.Pairwise fun a b => bt R a b = true) (k : Nat) (hk : k < O.length) : rk R O[k] = k := by
 have hd : O = O.take k ++ O[k] :: O.drop (k + 1) := by rw [List.getElem_cons_drop, List.take_append_drop]
 unfold rk
 rw [← hp.countP_eq]
 generalize hx : O[k] = x at *
 have h1 : ∀ a ∈ O.take k, bt R a x = true := by
  rw [hd] at hs
  exact fun a ha => (List.pairwise_append.1 hs).2.2 a ha x (List.mem_cons_self ..)
 have h2 : ∀ b ∈ O.drop (k + 1), bt R b x = false := by
  rw [hd] at hs
  exact fun b hb => bt_asymm ((List.pairwise_cons.1 (List.pairwise_append.1 hs).2.1).1 b hb)
 rw [hd, List.countP_append, List.countP_cons, bt_self]
 rw [List.countP_eq_length.2 (by simpa using h1), List.countP_eq_zero.2 (by simpa using h2), List.length_take]
 simp; omega
theorem order_is (R : List Int) : ∃ O : List Nat, O.Perm (List.range R.length) ∧ O.Pairwise fun a b => bt R a b = true := by
 let le : Nat → Nat → Bool := fun a b => !bt R b a
 have hp := List.mergeSort_perm (List.range R.length) le
 have htr : ∀ a b c : Nat, le a b = true → le b c = true → le a c = true := fun a b c h1 h2 => by
  simp only [le, Bool.not_eq_true'] at *
  rw [bt_false] at *
  omega
 have hto : ∀ a b : Nat, (le a b || le b a) = true := fun a b => by
  simp only [le]
  cases h : bt R b a with
  | false => rfl
  | true => rw [bt_asymm h]; rfl
 have hs := List.pairwise_mergeSort htr hto (List.range R.length)
 refine ⟨_, hp, ?_⟩
 have hn : ((List.range R.length).mergeSort le).Nodup := hp.nodup_iff.2 List.nodup_range
 refine (hs.and hn).imp ?_
 rintro a b ⟨h1, h2⟩
 rcases bt_tri (R := R) h2 with h | h
 ·exact h
 ·simp only [le, h] at h1; cases h1
theorem countP_perm_rk (R : List Int) (m : Nat) (hm : m ≤ R.length) : ((List.range R.length).countP fun i => decide (rk R i < m)) = m := by
 obtain ⟨O, hp, hs⟩ := order_is R
 have hl : O.length = R.length := by rw [hp.length_eq, List.length_range]
 rw [← hp.countP_eq]
 have : ∀ (l : List Nat) (f : Nat → Nat) (s : Nat), (∀ k, (h : k < l.length) → f l[k] = s + k) → l.countP (fun i => decide (f i < m)) = min l.length (m - s) := by
  intro l f
  induction l with
  | nil => intro s _; simp
  | cons a t ih =>
   intro s h
   have h0 : f a = s := h 0 (by simp)
   have hi := ih (s + 1) fun k hk => by have := h (k + 1) (by simp; omega); simp at this; omega
   rw [List.countP_cons, hi, h0, List.length_cons]
   by_cases c : s < m
   ·rw [decide_eq_true c]; simp; omega
   ·rw [decide_eq_false c]; simp; omega
 rw [this O (rk R) 0 fun k hk => by rw [order_rk hp hs k hk]; omega]
 omega

/-! ### Quotients and remainders -/
def quoL (T W : Int) (ws : List Int) : List Int := ws.map fun x => T * x / W
def remL (T W : Int) (ws : List Int) : List Int := ws.map fun x => T * x % W
def leftOf (T W : Int) (ws : List Int) : Int := T - (quoL T W ws).sum
theorem sum_mul (T : Int) : ∀ ws : List Int, (ws.map fun x => T * x).sum = T * ws.sum
 | [] => by simp
 | a :: t => by simp [sum_mul T t, Int.mul_add]
theorem sum_quo_rem (T W : Int) : ∀ ws : List Int, W * (quoL T W ws).sum + (remL T W ws).sum = T * ws.sum
 | [] => by simp [quoL, remL]
 | a :: t => by
  have ih := sum_quo_rem T W t
  have h1 : W * (T * a / W) + T * a % W = T * a := Int.mul_ediv_add_emod _ _
  simp only [quoL, remL, List.map_cons, List.sum_cons] at ih ⊢
  rw [Int.mul_add, Int.mul_add]
  omega
theorem sum_bound (W : Int) (hW : 0 < W) : ∀ R : List Int, (∀ x ∈ R, 0 ≤ x ∧ x < W) → 0 ≤ R.sum ∧ R.sum ≤ ((R.countP fun x => decide (0 < x) : Nat) : Int) * (W - 1)
 | [], _ => by simp
 | a :: t, h => by
  have ih := sum_bound W hW t fun x hx => h x (List.mem_cons_of_mem _ hx)
  have ha := h a (List.mem_cons_self ..)
  rw [List.sum_cons, List.countP_cons]
  by_cases c : 0 < a
  ·rw [decide_eq_true c, if_pos rfl, Int.natCast_add, Int.add_mul]
   simp; omega
  ·rw [decide_eq_false c]; simp; omega
theorem rem_in {T W : Int} {ws : List Int} (hW : 0 < W) : ∀ x ∈ remL T W ws, 0 ≤ x ∧ x < W := by
 intro x hx
 obtain ⟨y, _, rfl⟩ := List.mem_map.1 hx
 exact ⟨Int.emod_nonneg _ (by omega), Int.emod_lt_of_pos _ hW⟩
theorem left_in {T W : Int} {ws : List Int} (hW : 0 < W) (hs : ws.sum = W) : 0 ≤ leftOf T W ws ∧ leftOf T W ws ≤ (((remL T W ws).countP fun x => decide (0 < x) : Nat) : Int) ∧ leftOf T W ws < ws.length := by
 have h1 := sum_quo_rem T W ws
 have h2 := sum_bound W hW (remL T W ws) (rem_in hW)
 rw [hs] at h1
 have hc : (remL T W ws).countP (fun x => decide (0 < x)) ≤ ws.length := by
  have := List.countP_le_length (p := fun x => decide (0 < x)) (l := remL T W ws)
  simpa [remL] using this
 have hn : 0 < ws.length := by
  rcases Nat.eq_zero_or_pos ws.length with h | h
  ·rw [List.eq_nil_of_length_eq_zero h] at hs; simp at hs; omega
  ·exact h
 unfold leftOf
 generalize (quoL T W ws).sum = Q at *
 generalize (remL T W ws).sum = S at *
 generalize (remL T W ws).countP (fun x => decide (0 < x)) = c at *
 have e : (T - Q) * W = S := by rw [Int.sub_mul, Int.mul_comm Q W]; omega
 have a1 : 0 ≤ T - Q := by
  rcases Int.lt_or_le (T - Q) 0 with h | h
  ·have := Int.mul_lt_mul_of_pos_right h hW; omega
  ·exact h
 have a2 : T - Q ≤ (c : Int) := by
  refine Int.le_of_mul_le_mul_right (a := W) ?_ hW
  rw [e]
  refine Int.le_trans h2.2 (Int.mul_le_mul_of_nonneg_left (by omega) (by omega))
 refine ⟨a1, a2, ?_⟩
 rcases Nat.eq_zero_or_pos c with h | h
 ·omega
 ·have h3 : (T - Q) * W < (c : Int) * W := by
   rw [e]
   refine Int.lt_of_le_of_lt h2.2 (Int.mul_lt_mul_of_pos_left (by omega) (by omega))
  have := Int.lt_of_mul_lt_mul_right h3 (by omega)
  omega
def givenL (Q R : List Int) (k : Nat) : List Int := (List.range Q.length).map fun i => Q.getD i 0 + if rk R i < k then 1 else 0
theorem givenL_len (Q R : List Int) (k : Nat) : (givenL Q R k).length = Q.length := by simp [givenL]
theorem givenL_at {Q R : List Int} {k i : Nat} (h : i < Q.length) : (givenL Q R k).getD i 0 = Q.getD i 0 + if rk R i < k then 1 else 0 := by
 simp [givenL, List.getD_eq_getElem?_getD, h]
theorem givenL_zero (Q R : List Int) : givenL Q R 0 = Q := by
 apply List.ext_getElem
 ·simp [givenL]
 ·intro i h1 h2
  simp [givenL, List.getD_eq_getElem?_getD, h2]
theorem givenL_next {Q R : List Int} {k b : Nat} (hl : R.length = Q.length) (hb : b < Q.length) (hr : rk R b = k) : givenL Q R (k + 1) = (givenL Q R k).set b ((givenL Q R k).getD b 0 + 1) := by
 apply List.ext_getElem
 ·simp [givenL]
 ·intro i h1 h2
  have hi : i < Q.length := by simpa [givenL] using h1
  rw [List.getElem_set]
  by_cases c : b = i
  ·subst c
   rw [if_pos rfl, givenL_at hb]
   simp [givenL, hr]
  ·rw [if_neg c]
   have : rk R i ≠ k := fun h => c (rk_inj (R := R) (by omega) (by omega) (by omega))
   simp only [givenL, List.getElem_map, List.getElem_range]
   by_cases d : rk R i < k
   ·rw [if_pos (by omega), if_pos d]
   ·rw [if_neg (by omega), if_neg d]
def partsP (T W : Int) (ws : List Int) : List Int := givenL (quoL T W ws) (remL T W ws) (leftOf T W ws).toNat
def partsL (T W : Int) (ws : List Int) : List Int := if T < 0 then (partsP (-T) W ws).map fun x => -x else partsP T W ws
theorem partsP_len (T W : Int) (ws : List Int) : (partsP T W ws).length = ws.length := by simp [partsP, givenL_len, quoL]
theorem partsL_len (T W : Int) (ws : List Int) : (partsL T W ws).length = ws.length := by unfold partsL; split <;> simp [partsP_len]
open Go.Shelf Go.RowKit Go.Lib Go.Sort
theorem sortWorld_far {α : Type} [Inhabited α] (enc : α → Value) (W : World) (blk off n : Nat) (dk : Array α) (os : Array Obj) (a : Addr) (h1 : a.block ≠ blk) (h2 : a.block < W.heap.size) : (sortWorld enc W blk off n dk os).cell? a = W.cell? a := by
 unfold sortWorld
 rw [cell?_grow _ _ _ (by rw [size_putRow]; exact h2), cell?_putRow_other enc _ blk off dk a (Or.inl h1)]
 rfl
theorem sw_below {α : Type} [Inhabited α] {enc : α → Value} {w0 W : World} {blk off : Nat} {dk : Array α} (h : SW enc w0 blk off dk W) {B : Nat} (hB : B ≤ blk) (hs : B ≤ w0.heap.size) : Below B w0 W := by
 obtain ⟨n, os, rfl⟩ := h
 unfold sortWorld
 have h1 : Below B w0 (putRow enc (Sort.ahead w0 n) blk off dk) := by
  refine ⟨rfl, rfl, rfl, by rw [size_putRow]; exact Nat.le_refl _, fun k hk => ?_⟩
  show (w0.heap.modify blk _)[k]? = _
  rw [Array.getElem?_modify, if_neg (by omega)]
 exact h1.trans (Lib.below_grow B _ (by rw [size_putRow]; exact hs) 0 os)
theorem desc_cl (bx b off n : Nat) (c : Nat) (R : List Int) (i j : Nat) (hi : i < n) (hj : j < n) (W : World) (hbx : W.cell? ⟨bx, 0, none⟩ = some (.slice (some ⟨b, off, none⟩) n c)) (hc : ∀ k, k < n → W.cell? ⟨b, off + k, none⟩ = some (.int .i64 (R.getD k 0))) :
  Calls Try.prog 45 #[.int .i64 i, .int .i64 j, .pointer (some ⟨bx, 0, none⟩)] W fun e w' => e = .returned (.int .i64 (Lib.compareInt (R.getD j 0) (R.getD i 0))) ∧ ∃ q, w' = W.drewN q := by
 have h1 := hc i hi
 have h2 := hc j hj
 generalize R.getD i 0 = x at *
 generalize R.getD j 0 = y at *
 have hcmp : ∀ W : World, Calls Try.prog 46 #[.int .i64 y, .int .i64 x] W fun e w' => e = .returned (.int .i64 (Lib.compareInt y x)) ∧ ∃ m, w' = W.drewN m := fun W => (Try.cmp_Compare_int y x W).mono fun _ _ ⟨he, hw⟩ => ⟨he, 0, by rw [hw]; rfl⟩
 generalize Lib.compareInt y x = r at *
 have HC := Lib.hid hcmp
 have hlt1 : (i : Int) < (n : Int) := by omega
 have hlt2 : (j : Int) < (n : Int) := by omega
 clear hc hcmp
 go_enter Try.func45, Try.ntmps45
 go_wp2_with fail
 go_quiet ((go_at_call 46; exact quiet_one HC.out))
 go_wp2_with fail
 go_ret
 exact ⟨rfl, nq, rfl⟩
theorem cmpInt_neg (x y : Int) : decide (Lib.compareInt x y < 0) = decide (x < y) := by
 unfold Lib.compareInt
 by_cases h1 : x < y
 ·simp [h1]
 ·by_cases h2 : y < x <;> simp [h1, h2]
def dcf (R : List Int) (p : Nat) (x y : Fin (p + 1)) : Int := Lib.compareInt (R.getD y.val 0) (R.getD x.val 0)
theorem dcf_lt (R : List Int) (p : Nat) (x y : Fin (p + 1)) : ltOf (dcf R p) x y = decide (R.getD y.val 0 < R.getD x.val 0) := cmpInt_neg _ _
theorem dcf_swo (R : List Int) (p : Nat) : SWO (ltOf (dcf R p)) where
 irrefl x := by rw [dcf_lt]; simp
 trans x y z h1 h2 := by rw [dcf_lt] at *; simp at *; omega
 ntrans x y z h1 h2 := by rw [dcf_lt] at *; simp at *; omega
theorem desc_order {R : List Int} {p : Nat} (hl : R.length = p + 1) {d d' : Array (Fin (p + 1))} (hd : d.toList.map (fun x => x.val) = List.range (p + 1)) (hsz : d.size = p + 1) (hp : PermIn 0 (p + 1) d d') (hs : SortedIn (tl (ltOf (dcf R p)) fun x => x.val) 0 (p + 1) d') :
  (d'.toList.map fun x => x.val).Perm (List.range R.length) ∧ (d'.toList.map fun x => x.val).Pairwise fun a b => bt R a b = true := by
 have hs' : d'.size = p + 1 := hp.1.trans hsz
 have hperm : d'.toList.Perm d.toList := by
  have h := hp.2.2
  have e1 : d'.extract 0 (p + 1) = d' := by apply Array.ext <;> simp [hs']
  have e2 : d.extract 0 (p + 1) = d := by apply Array.ext <;> simp [hsz]
  rw [e1, e2] at h
  exact h
 have hpm : (d'.toList.map fun x => x.val).Perm (List.range R.length) := by rw [hl, ← hd]; exact hperm.map _
 refine ⟨hpm, ?_⟩
 have hnd : (d'.toList.map fun x => x.val).Nodup := hpm.nodup_iff.2 List.nodup_range
 rw [List.pairwise_iff_getElem]
 intro i j hi hj hij
 have hi2 : i < d'.size := by simpa using hi
 have hj2 : j < d'.size := by simpa using hj
 have h := hs i j (Nat.zero_le _) hij (by omega)
 have hne : (d'.toList.map fun x => x.val)[i] ≠ (d'.toList.map fun x => x.val)[j] := (List.pairwise_iff_getElem.1 hnd) i j hi hj hij
 have e1 : (d'.toList.map fun x => x.val)[i] = d'[i].val := by simp
 have e2 : (d'.toList.map fun x => x.val)[j] = d'[j].val := by simp
 rw [e1, e2] at hne ⊢
 rcases bt_tri (R := R) hne with h1 | h1
 ·exact h1
 ·rw [tl_false, dcf_lt, dcf_lt, getElem!_pos d' i hi2, getElem!_pos d' j hj2] at h
  rw [bt_true] at h1
  simp only [decide_eq_false_iff_not, decide_eq_true_eq] at h
  omega
theorem iota_toList (p : Nat) : (Array.ofFn fun i : Fin (p + 1) => i).toList.map (fun x => x.val) = List.range (p + 1) := by
 apply List.ext_getElem
 ·simp
 ·intro i h1 h2; simp only [List.getElem_map, Array.getElem_toList, Array.getElem_ofFn, List.getElem_range]
theorem iota_at (p k : Nat) (h : k < p + 1) : ((Array.ofFn fun i : Fin (p + 1) => i)[k]!).val = k := by
 rw [getElem!_pos _ k (by simpa using h)]; simp
set_option maxRecDepth 20000 in
set_option maxHeartbeats 1600000 in
theorem desc_any (A : Option Addr) (c : Nat) (R : List Int) (w : World) (hR : IntsAt .i64 w A R) (hn : 0 < R.length) (hn2 : R.length ≤ 1000) :
  Calls Try.prog 41 #[.slice A R.length c] w fun e w' => ∃ (g : Nat) (O : List Nat), e = .returned (.slice (some ⟨g, 0, none⟩) R.length R.length) ∧ w.heap.size ≤ g ∧ Below w.heap.size w w' ∧ O.Perm (List.range R.length) ∧ (O.Pairwise fun a b => bt R a b = true) ∧ IntsAt .i64 w' (some ⟨g, 0, none⟩) (O.map fun (k : Nat) => (k : Int)) := by
 obtain ⟨b, off, rfl, hbw, hcs⟩ := hR hn
 clear hR
 obtain ⟨p, hp⟩ : ∃ p, R.length = p + 1 := ⟨R.length - 1, by omega⟩
 obtain ⟨n, hnn⟩ : ∃ n, R.length = n := ⟨_, rfl⟩
 rw [hnn] at hn hn2 hcs ⊢
 have hpn : n = p + 1 := by omega
 have HCS := Lib.hid hcs
 have HP := Lib.hid hp
 have HPN := Lib.hid hpn
 have HNN := Lib.hid hnn
 clear hcs hp hpn hnn
 obtain ⟨i0, hi, hz0, hz1, hz2⟩ := info_parts infoI_int
 have hmf : ∀ (fn : Fn) (first cap : Array Value) (w : World), (Instr.makeFunc fn first cap).run Try.prog w = .ok (.func fn first cap) w := fun _ _ _ _ => rfl
 go_enter Try.func41, Try.ntmps41
 go_wp2_with (at_make; refine wpList_make_zeros _ rfl (.tmp 6) (.tmp 6) 22 rfl 3 .i64 i0 8 Try.underlying22 hi hz0 hz1 hz2 .i64 .i64 _ _ n rfl rfl rfl rfl (by omega) (by omega) ?_; intro w1 hb1 hB1 hs1)
 obtain ⟨g, hg⟩ : ∃ g, w.heap.size + 1 = g := ⟨_, rfl⟩
 have hsz1 : (w.alloc (.cells #[.slice (some ⟨b, off, none⟩) n c] 22)).heap.size = g := by simp; omega
 have hbx1 : (w.alloc (.cells #[.slice (some ⟨b, off, none⟩) n c] 22)).cell? ⟨w.heap.size, 0, none⟩ = some (.slice (some ⟨b, off, none⟩) n c) := by simp
 have hBw : Below w.heap.size w (w.alloc (.cells #[.slice (some ⟨b, off, none⟩) n c] 22)) := below_alloc_new _
 have hB0 : Below w.heap.size w w1 := hBw.trans (hB1.mono (by omega))
 rw [hsz1] at hb1 hB1 hs1
 have hbx := (hB1.cell (p := ⟨w.heap.size, 0, none⟩) (by show w.heap.size < g; omega)).trans hbx1
 have I1 : Hid (IB w1 g (List.replicate n (0 : Int))) := Lib.hid (IB.zeros hb1.out)
 have hsw : g < w1.heap.size := by omega
 clear hb1 hB1 hsz1 hbx1 hBw hs1
 generalize hbb : w.heap.size = bx at *
 rw [hg]
 have HG := Lib.hid hg
 have hgb : bx < g := by omega
 clear hg
 go_loopg [4, 10] n (fun kx s4 s10 wr => ∃ (k : Nat) (L : List Int), s10 = .int .i64 k ∧ k ≤ n ∧ n - k ≤ kx ∧ L.length = n ∧ Hid (∀ i, i < k → L.getD i 0 = i) ∧ Hid (IB wr g L) ∧ Below bx w wr ∧ Hid (wr.cell? ⟨bx, 0, none⟩ = some (.slice (some ⟨b, off, none⟩) n c)))
 case atStart => exact ⟨0, _, rfl, by omega, by omega, by simp, Lib.hid (fun i h => by omega), I1, hB0, Lib.hid hbx⟩
 case round =>
  clear I1 hB0 hbx hsw
  obtain ⟨k, L, rfl, hk, hkx, hL, HL, I1, hB0, HBX⟩ := hrel
  by_cases hlt : k < n
  ·have hltz : (k : Int) < (n : Int) := by omega
   have hc := I1.out.cell k (by omega)
   have hf := I1.out.frozen k
   have I2 : Hid (IB (wr.setCell ⟨g, k, none⟩ (.int .i64 k)) g (L.set k k)) := Lib.hid (I1.out.set k k)
   have hB2 : Below bx w (wr.setCell ⟨g, k, none⟩ (.int .i64 k)) := Below.setCell (p := ⟨g, k, none⟩) hB0 (by show bx ≤ g; omega) _
   have HBX2 : Hid ((wr.setCell ⟨g, k, none⟩ (.int .i64 k)).cell? ⟨bx, 0, none⟩ = some (.slice (some ⟨b, off, none⟩) n c)) := Lib.hid ((World.cell?_setCell_other _ _ _ _ (by intro e; simp only [Addr.mk.injEq] at e; omega)).trans HBX.out)
   go_wp2_with fail
   go_roundg (n - (k + 1))
   case measure => omega
   case rel =>
    refine ⟨k + 1, L.set k k, by go_num, by omega, by omega, by simpa using hL, Lib.hid fun i hi => ?_, I2, hB2, HBX2⟩
    rw [List.getD_eq_getElem?_getD, List.getElem?_set]
    by_cases e : k = i
    ·subst e; simp [hL, hlt]
    ·rw [if_neg e, ← List.getD_eq_getElem?_getD]; exact HL.out i (by omega)
  ·have hkn : k = n := by omega
   have hltz : ¬ (k : Int) < (n : Int) := by omega
   have eg : ∀ args w, (callFunc 45 args).run Try.prog w = .ok (.enter 45 args) w := enters_of Try.func45 (by kernel_rfl) rfl
   have hL9 : ∀ i, i < n → L.getD i 0 = i := fun i h => HL.out i (by omega)
   have hsz : (Array.ofFn fun i : Fin (p + 1) => i).size = n := by rw [Array.size_ofFn]; exact HPN.out.symm
   have hH : Holds (fun x : Fin (p + 1) => Value.int .i64 (x.val : Int)) wr g 0 (Array.ofFn fun i : Fin (p + 1) => i) := fun j hj => by
    rw [hsz] at hj
    rw [Nat.zero_add]
    refine ⟨?_, I1.out.frozen j⟩
    rw [I1.out.cell j (by omega), hL9 j hj]
    show _ = some (Value.int .i64 (((Array.ofFn fun i : Fin (p + 1) => i)[j]!).val : Int))
    rw [iota_at p j (by have := HPN.out; omega)]
   have RR : Row1 (fun x : Fin (p + 1) => Value.int .i64 (x.val : Int)) wr g 0 (Array.ofFn fun i : Fin (p + 1) => i) := ⟨fun _ => rfl, hH, I1.out.lt⟩
   have hcm : CmpReads Try.prog 45 #[.pointer (some ⟨bx, 0, none⟩)] (fun x : Fin (p + 1) => Value.int .i64 (x.val : Int)) (dcf R p) g 0 (Array.ofFn fun i : Fin (p + 1) => i).size wr := fun m os dk _ x y => by
    refine desc_cl bx b off n c R x.val y.val (by have := x.isLt; have := HPN.out; omega) (by have := y.isLt; have := HPN.out; omega) _ ?_ fun k2 hk2 => ?_
    ·rw [sortWorld_far _ _ _ _ _ _ _ _ (by show bx ≠ g; omega) (by show bx < wr.heap.size; have := I1.out.lt; omega)]; exact HBX.out
    ·rw [sortWorld_far _ _ _ _ _ _ _ _ (by show b ≠ g; omega) (by show b < wr.heap.size; have := I1.out.lt; omega)]
     exact (hB0.cell (p := ⟨b, off + k2, none⟩) hbw).trans (HCS.out k2 hk2)
   have hsort := st_sort RR (dcf R p) (dcf_swo R p) (fun x => x.val) 45 #[.pointer (some ⟨bx, 0, none⟩)] eg hcm.lays n n hsz (by omega) (fun q hq => iota_at p q (by have := HPN.out; omega))
   have HS := Lib.hid hsort
   have HH := Lib.hid hH
   clear hsort hcm RR hH hL9 eg
   go_wp2_with (go_at_call 44; refine HS.out.mono ?_; rintro e w' ⟨rfl, d', S, hpe, hso⟩)
   go_ret
   have hpn := HPN.out
   subst hpn
   obtain ⟨q1, q2⟩ := desc_order HP.out (iota_toList p) hsz hpe hso
   have hd' : d'.size = p + 1 := hpe.1.trans hsz
   rw [HNN.out] at q1
   refine ⟨g, d'.toList.map (fun x => x.val), rfl, by omega, by rw [hbb]; exact hB0.trans (sw_below S (by omega) (by have := I1.out.lt; omega)), q1, q2, fun h0 => ⟨g, 0, rfl, S.lt I1.out.lt, fun i hi => ?_⟩⟩
   have hi2 : i < d'.size := by simpa using hi
   rw [((S.holds I1.out.lt HH.out (by rw [hsz]; exact hd')) i hi2).1, getElem!_pos d' i hi2]
   simp [List.getD_eq_getElem?_getD, hi2]
def amtB (n : Int) : Bool := decide (-1000000000000 ≤ n) && decide (n ≤ 1000000000000)
theorem amtB_is {n : Int} (h : amtB n = true) : -1000000000000 ≤ n ∧ n ≤ 1000000000000 := by simpa [amtB] using h
theorem amtB_mk {n : Int} (h1 : -1000000000000 ≤ n) (h2 : n ≤ 1000000000000) : amtB n = true := by simp [amtB, h1, h2]
def hr (a b : Int) : Int := if a < 0 then -((2 * -a + b) / (2 * b)) else (2 * a + b) / (2 * b)
def wgB (n : Int) : Bool := decide (0 ≤ n) && decide (n ≤ 1000000)
theorem wgB_is {n : Int} (h : wgB n = true) : 0 ≤ n ∧ n ≤ 1000000 := by simpa [wgB] using h
theorem wgB_no {n : Int} (h : wgB n = false) : n < 0 ∨ 1000000 < n := by
 unfold wgB at h
 by_cases h1 : 0 ≤ n
 ·rw [decide_eq_true h1, Bool.true_and] at h; have := of_decide_eq_false h; omega
 ·omega
def fillI (Q : List Int) (k : Nat) : List Int := Q.take k ++ List.replicate (Q.length - k) 0
theorem fillI_zero (Q : List Int) : fillI Q 0 = List.replicate Q.length 0 := by simp [fillI]
theorem fillI_all {Q : List Int} {k : Nat} (h : Q.length ≤ k) : fillI Q k = Q := by
 unfold fillI
 rw [List.take_of_length_le h, show Q.length - k = 0 by omega, List.replicate_zero, List.append_nil]
theorem fillI_len {Q : List Int} {k : Nat} (h : k ≤ Q.length) : (fillI Q k).length = Q.length := by simp [fillI]; omega
theorem fillI_next {Q : List Int} {k : Nat} (h : k < Q.length) : (fillI Q k).set k (Q.getD k 0) = fillI Q (k + 1) := by
 apply List.ext_getElem
 ·rw [List.length_set, fillI_len (by omega), fillI_len (by omega)]
 ·intro i h1 h2
  have hi : i < Q.length := by rw [fillI_len (by omega)] at h2; exact h2
  rw [List.getElem_set]
  by_cases e : k = i
  ·subst e
   rw [if_pos rfl]
   simp [fillI, List.getElem_append, List.getD_eq_getElem?_getD, h]
   omega
  ·rw [if_neg e]
   simp only [fillI, List.getElem_append, List.length_take, List.getElem_take]
   by_cases c : i < k
   ·rw [dif_pos (by omega), dif_pos (by omega)]
   ·rw [dif_neg (by omega), dif_neg (by omega), List.getElem_replicate, List.getElem_replicate]
theorem take_sum1 (zs : List Int) (k : Nat) (h : k < zs.length) : (zs.take (k + 1)).sum = (zs.take k).sum + zs.getD k 0 := by
 rw [List.take_succ_eq_append_getElem h, List.sum_append, List.getD_eq_getElem?_getD, List.getElem?_eq_getElem h]
 simp
theorem sum_nn : ∀ {l : List Int}, (∀ x ∈ l, 0 ≤ x) → 0 ≤ l.sum
 | [], _ => by simp
 | a :: t, h => by
  have := sum_nn (l := t) fun x hx => h x (List.mem_cons_of_mem _ hx)
  have := h a (List.mem_cons_self ..)
  rw [List.sum_cons]; omega
theorem take_sum_in {l : List Int} (h : ∀ x ∈ l, 0 ≤ x) (k : Nat) : 0 ≤ (l.take k).sum ∧ (l.take k).sum ≤ l.sum := by
 have h1 := sum_nn (l := l.take k) fun x hx => h x (List.mem_of_mem_take hx)
 have h2 := sum_nn (l := l.drop k) fun x hx => h x (List.mem_of_mem_drop hx)
 have h3 : l.sum = (l.take k).sum + (l.drop k).sum := by rw [← List.sum_append, List.take_append_drop]
 omega
theorem sum_le_len : ∀ {l : List Int} {M : Int}, (∀ x ∈ l, x ≤ M) → l.sum ≤ (l.length : Int) * M
 | [], M, _ => by simp
 | a :: t, M, h => by
  have h1 := sum_le_len (l := t) (M := M) fun x hx => h x (List.mem_cons_of_mem _ hx)
  have h2 := h a (List.mem_cons_self ..)
  rw [List.sum_cons, List.length_cons]
  rw [Int.natCast_add, Int.add_mul]; omega
theorem quoL_nn {T W : Int} {ws : List Int} (hT : 0 ≤ T) (hW : 0 < W) (hw : ∀ x ∈ ws, 0 ≤ x) : ∀ x ∈ quoL T W ws, 0 ≤ x := by
 intro x hx
 obtain ⟨y, hy, rfl⟩ := List.mem_map.1 hx
 exact Int.ediv_nonneg (Int.mul_nonneg hT (hw y hy)) (by omega)
theorem quoL_at {T W : Int} {ws : List Int} {k : Nat} (h : k < ws.length) : (quoL T W ws).getD k 0 = T * ws.getD k 0 / W := by simp [quoL, List.getD_eq_getElem?_getD, h]
theorem remL_at {T W : Int} {ws : List Int} {k : Nat} (h : k < ws.length) : (remL T W ws).getD k 0 = T * ws.getD k 0 % W := by simp [remL, List.getD_eq_getElem?_getD, h]
theorem left_k {T W : Int} {ws : List Int} (hT : 0 ≤ T) (hW : 0 < W) (hw : ∀ x ∈ ws, 0 ≤ x) (hs : ws.sum = W) (k : Nat) : 0 ≤ T - ((quoL T W ws).take k).sum ∧ T - ((quoL T W ws).take k).sum ≤ T := by
 have h1 := take_sum_in (quoL_nn hT hW hw) k
 have h2 := (left_in (T := T) hW hs).1
 unfold leftOf at h2
 omega
theorem quo_one {T W x : Int} (hT : 0 ≤ T ∧ T ≤ 1000000000000) (hW : 0 < W) (hx : 0 ≤ x ∧ x ≤ 1000000) :
  ∃ P q r : Int, T * x = P ∧ P / W = q ∧ P % W = r ∧ P.tdiv W = q ∧ P.tmod W = r ∧ 0 ≤ P ∧ P ≤ 1000000000000000000 ∧ 0 ≤ q ∧ q ≤ 1000000000000000000 ∧ 0 ≤ r ∧ r < W := by
 have h1 : 0 ≤ T * x := Int.mul_nonneg hT.1 hx.1
 have h2 : T * x ≤ 1000000000000 * 1000000 := Int.mul_le_mul hT.2 hx.2 hx.1 (by omega)
 have h3 : 0 ≤ T * x / W := Int.ediv_nonneg h1 (by omega)
 have h4 : T * x / W ≤ T * x := Int.ediv_le_self _ h1
 exact ⟨_, _, _, rfl, rfl, rfl, Int.tdiv_eq_ediv_of_nonneg h1, Int.tmod_eq_emod_of_nonneg h1, h1, by omega, h3, by omega, Int.emod_nonneg _ (by omega), Int.emod_lt_of_pos _ hW⟩
theorem mem_getD {l : List Int} {k : Nat} (h : k < l.length) : l.getD k 0 ∈ l := by
 rw [List.getD_eq_getElem?_getD, List.getElem?_eq_getElem h]; exact List.getElem_mem h
def wsE (T : Int) (ws : List Int) : Int := if (amtB T && (decide (1 ≤ ws.length) && decide (ws.length ≤ 1000))) = true then if ws.all wgB = true then if ws.sum = 0 then 10 else 0 else 1 else 1
def wsV (T : Int) (ws : List Int) : Int := if wsE T ws = 0 then ws.sum else 0
def splitL (T : Int) (ws : List Int) : List Int := if wsE T ws = 0 then partsL T ws.sum ws else []
structure WsOk (T : Int) (ws : List Int) : Prop where
 amt : -1000000000000 ≤ T ∧ T ≤ 1000000000000
 len : 0 < ws.length ∧ ws.length ≤ 1000
 all : ∀ x ∈ ws, 0 ≤ x ∧ x ≤ 1000000
 pos : 0 < ws.sum
 le : ws.sum ≤ 1000000000
theorem wsE_ok {T : Int} {ws : List Int} (h : wsE T ws = 0) : WsOk T ws := by
 unfold wsE at h
 split at h
 ·rename_i h1
  split at h
  ·rename_i h2
   split at h
   ·cases h
   ·rename_i h3
    simp only [Bool.and_eq_true, decide_eq_true_eq] at h1
    have ha : ∀ x ∈ ws, 0 ≤ x ∧ x ≤ 1000000 := fun x hx => wgB_is (List.all_eq_true.1 h2 x hx)
    have hs := sum_nn fun x hx => (ha x hx).1
    have hl := sum_le_len (M := 1000000) fun x hx => (ha x hx).2
    exact ⟨amtB_is h1.1, by omega, ha, by omega, by omega⟩
  ·cases h
 ·cases h
open Go.RowKit
theorem mvalid_any (n : Int) (w : World) : Calls Try.prog 26 #[.int .i64 n] w fun e w' => e = .returned (.bool (amtB n)) ∧ w = w' := by
 unfold amtB
 by_cases h1 : (-1000000000000 : Int) ≤ n
 ·by_cases h2 : n ≤ 1000000000000
  ·rw [decide_eq_true h1, decide_eq_true h2]
   go_enter Try.func26, Try.ntmps26
   go_wp2
   go_ret
   exact ⟨rfl, rfl⟩
  ·rw [decide_eq_true h1, decide_eq_false h2]
   have h3 : decide (n ≤ 1000000000000) = false := decide_eq_false h2
   clear h2
   go_enter Try.func26, Try.ntmps26
   go_wp2
   go_ret
   exact ⟨rfl, rfl⟩
 ·rw [decide_eq_false h1]
  have h3 : decide ((-1000000000000 : Int) ≤ n) = false := decide_eq_false h1
  clear h1
  go_enter Try.func26, Try.ntmps26
  go_wp2
  go_ret
  exact ⟨rfl, rfl⟩
end Go.Proofs.Ytocojbkhdijjeaa
