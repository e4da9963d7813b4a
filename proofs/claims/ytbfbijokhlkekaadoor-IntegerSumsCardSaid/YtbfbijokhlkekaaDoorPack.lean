/- Sums, differences and products of limbs as numbers; the order of limbs as that of their numbers. -/
import Derived.Test.YtbfbijokhlkekaaDoorNum
import Derived.Test.YtbfbijokhlkekaaDoorParse
import Derived.Test.YtbfbijokhlkekaaDoorMultiply
import Derived.Test.YtbfbijokhlkekaaDoorSubtract
import Derived.Test.YtbfbijokhlkekaaDoorCompare
namespace Go.Proofs.YtbfbijokhlkekaaDoor
open Go.RowKit

abbrev val9 (L : List Nat) : Nat := valB 1000000000 L
/-- The limbs that 'trim' leaves of a block. -/
theorem trim_pack {w : World} {g B c : Nat} {R : List Nat} (hb : Blk .u32 68 w g R) (hR : Lim R) (hg : g < B) (hc : R.length ≤ c) :
    ∃ L, L.length = trimN R R.length ∧ Row .u32 w B (some ⟨g, 0, none⟩) c L ∧ Canon L ∧ val9 L = val9 R := by
  have htl := trimN_le R R.length
  have el : (R.take (trimN R R.length)).length = trimN R R.length := by rw [List.length_take]; omega
  refine ⟨R.take (trimN R R.length), el, (Row.ofBlk hb hg hc).take _, ⟨hR.take _, ?_⟩, ?_⟩
  · rw [el]; intro h; rw [nth_take (by omega)]; exact trimN_top _ _ h
  · rw [val9, trimN_val _ _ _ (Nat.le_refl _), List.take_of_length_le (Nat.le_refl _)]

theorem mult2 (A A' : Option Addr) (c c' : Nat) (L M : List Nat) (w : World) (hl : L.length ≤ 500000) (hml : M.length ≤ 500000)
    (hL : Lim L) (hM : Lim M) (hR : Row .u32 w w.heap.size A c L) (hR' : Row .u32 w w.heap.size A' c' M) :
    Calls Tryd.prog 57 #[.slice A L.length c, .slice A' M.length c'] w fun e w' => ∃ g c R, e = .returned (.slice (some ⟨g, 0, none⟩) R.length c) ∧
      Row .u32 w' w'.heap.size (some ⟨g, 0, none⟩) c R ∧ Canon R ∧ val9 R = val9 L * val9 M ∧ R.length ≤ L.length + M.length ∧ Below w.heap.size w w' ∧ w.heap.size ≤ g := by
  refine (multiply_any A A' c c' L M w (by omega) (by omega) hL hM hR hR').mono ?_
  rintro e w' ⟨rfl, hb, hbw⟩
  have hz : Lim (List.replicate (L.length + M.length) 0) := fun d hd => by have := (List.mem_replicate.1 hd).2; omega
  have hok := mulSt_ok hL hM hz L.length
  have hv := mul_val hL hM
  have hlen : (mulSt L M (List.replicate (L.length + M.length) 0) L.length).length = L.length + M.length := by rw [hok.2]; simp
  obtain ⟨R, h1, h2, h3, h4⟩ := trim_pack (c := L.length + M.length) hb hok.1 hb.lt (by omega)
  rw [hlen] at h1
  have htl := trimN_le (mulSt L M (List.replicate (L.length + M.length) 0) L.length) (L.length + M.length)
  exact ⟨_, _, R, by rw [h1], h2, h3, by rw [h4]; exact hv, by omega, hbw, Nat.le_refl _⟩

theorem subt2 (A A' : Option Addr) (c c' : Nat) (L M : List Nat) (w : World) (hl : L.length ≤ 1000000) (hml : M.length ≤ L.length)
    (hL : Lim L) (hM : Lim M) (hle : val9 M ≤ val9 L) (hR : Row .u32 w w.heap.size A c L) (hR' : Row .u32 w w.heap.size A' c' M) :
    Calls Tryd.prog 52 #[.slice A L.length c, .slice A' M.length c'] w fun e w' => ∃ g c R, e = .returned (.slice (some ⟨g, 0, none⟩) R.length c) ∧
      Row .u32 w' w'.heap.size (some ⟨g, 0, none⟩) c R ∧ Canon R ∧ val9 R + val9 M = val9 L ∧ R.length ≤ L.length ∧ Below w.heap.size w w' ∧ w.heap.size ≤ g := by
  refine (subtract_any A A' c c' L M w hl hml hL hM hR hR').mono ?_
  rintro e w' ⟨rfl, hb, hbw⟩
  have hok := subSt_ok hM hL L.length
  have hv := subSt_val hM hL L.length (Nat.le_refl _)
  rw [valB_take_over _ _ _ hml] at hv
  have hlt := valB_lt hok.1
  rw [hok.2.2] at hlt
  have hb0 : (subSt M L L.length).2 = 0 := by
    rcases Nat.eq_zero_or_pos (subSt M L L.length).2 with h | h
    · exact h
    · have h1 : (subSt M L L.length).2 = 1 := by have := hok.2.1; omega
      rw [h1] at hv; simp only [val9] at hle; omega
  rw [hb0] at hv
  obtain ⟨R, h1, h2, h3, h4⟩ := trim_pack (c := L.length) hb hok.1 hb.lt (by rw [hok.2.2]; exact Nat.le_refl _)
  rw [hok.2.2] at h1
  have htl := trimN_le (subSt M L L.length).1 L.length
  exact ⟨_, _, R, by rw [h1], h2, h3, by rw [h4]; simpa using hv, by omega, hbw, Nat.le_refl _⟩

theorem addl2 (A A' : Option Addr) (c c' : Nat) (L M : List Nat) (w : World) (hl : L.length ≤ 500000) (hml : M.length ≤ L.length)
    (hL : Lim L) (hM : Lim M) (hR : Row .u32 w w.heap.size A c L) (hR' : Row .u32 w w.heap.size A' c' M) :
    Calls Tryd.prog 50 #[.slice A L.length c, .slice A' M.length c'] w fun e w' => ∃ g c R, e = .returned (.slice (some ⟨g, 0, none⟩) R.length c) ∧
      Row .u32 w' w'.heap.size (some ⟨g, 0, none⟩) c R ∧ Canon R ∧ val9 R = val9 L + val9 M ∧ R.length ≤ L.length + 1 ∧ Below w.heap.size w w' ∧ w.heap.size ≤ g := by
  refine (add_long A A' c c' L M w (by omega) hml hL hM hR hR').mono ?_
  rintro e w' ⟨rfl, hb, hbw⟩
  have hL0 : Lim (L ++ [0]) := by intro d hd; rcases List.mem_append.1 hd with h | h; exact hL d h; simp at h; omega
  have hok := addSt_ok (o := 0) hM hL0 (L.length + 1)
  have hv := addSt_val (o := 0) hM hL0 (L.length + 1) (by simp)
  rw [valB_take_over _ _ _ (by omega), valB_append] at hv
  have hlen : (addSt 0 M (L ++ [0]) (L.length + 1)).1.length = L.length + 1 := by rw [hok.2.2]; simp
  have h1 := valB_lt hL
  have h2 := valB_lt hM
  have h3 : (1000000000 : Nat) ^ M.length ≤ 1000000000 ^ L.length := Nat.pow_le_pow_right (by omega) hml
  have hc0 : (addSt 0 M (L ++ [0]) (L.length + 1)).2 = 0 := by
    rcases Nat.eq_zero_or_pos (addSt 0 M (L ++ [0]) (L.length + 1)).2 with h | h
    · exact h
    · have h4 : (addSt 0 M (L ++ [0]) (L.length + 1)).2 = 1 := by have := hok.2.1; omega
      rw [h4] at hv
      have h5 : (1000000000 : Nat) ^ (0 + (L.length + 1)) = 1000000000 * 1000000000 ^ L.length := by rw [Nat.zero_add, Nat.pow_succ, Nat.mul_comm]
      rw [h5] at hv
      simp [valB] at hv
      omega
  rw [hc0] at hv
  obtain ⟨R, h1, h2, h3, h4⟩ := trim_pack (c := L.length + 1) hb hok.1 hb.lt (by omega)
  rw [hlen] at h1
  have htl := trimN_le (addSt 0 M (L ++ [0]) (L.length + 1)).1 (L.length + 1)
  refine ⟨_, _, R, by rw [h1], h2, h3, ?_, by omega, hbw, Nat.le_refl _⟩
  rw [h4]
  simp [valB] at hv
  exact hv

/-- Limbs of another length. -/
theorem canon_lt {L M : List Nat} (hL : Lim L) (hM : Canon M) (h : L.length < M.length) : val9 L < val9 M := by
  have h1 := valB_lt hL
  have h2 : (1000000000 : Nat) ^ L.length ≤ 1000000000 ^ (M.length - 1) := Nat.pow_le_pow_right (by omega) (by omega)
  have h3 := valB_take_succ 1000000000 M (M.length - 1) (by omega)
  rw [show M.length - 1 + 1 = M.length by omega, List.take_of_length_le (Nat.le_refl _)] at h3
  have h4 := hM.top (by omega)
  have h5 : 1000000000 ^ (M.length - 1) * 1 ≤ 1000000000 ^ (M.length - 1) * nth M (M.length - 1) := Nat.mul_le_mul_left _ (by omega)
  unfold val9
  omega
theorem cmpDown_val {L M : List Nat} (hL : Lim L) (hM : Lim M) (n : Nat) (h1 : n ≤ L.length) (h2 : n ≤ M.length) : cmpDown L M n = cmpZ (val9 (L.take n)) (val9 (M.take n)) := by
  induction n with
  | zero => simp [cmpDown, cmpZ, valB]
  | succ n ih =>
    have e1 := valB_take_succ 1000000000 L n (by omega)
    have e2 := valB_take_succ 1000000000 M n (by omega)
    have b1 := valB_lt (hL.take n)
    have b2 := valB_lt (hM.take n)
    rw [List.length_take, Nat.min_eq_left (by omega)] at b1 b2
    unfold cmpDown val9
    rw [e1, e2]
    split
    · rename_i h
      rw [ih (by omega) (by omega), h]
      unfold cmpZ val9
      simp
    · rename_i h
      generalize valB 1000000000 (L.take n) = x at *
      generalize valB 1000000000 (M.take n) = y at *
      generalize (1000000000 : Nat) ^ n = p at *
      unfold cmpZ
      rcases Nat.lt_or_gt_of_ne h with h | h
      · rw [if_pos h]
        have : p * (nth L n + 1) ≤ p * nth M n := Nat.mul_le_mul_left _ h
        rw [Nat.mul_add] at this
        rw [if_pos (by omega)]
      · rw [if_neg (by omega), if_neg (by omega)]
        have : p * (nth M n + 1) ≤ p * nth L n := Nat.mul_le_mul_left _ h
        rw [Nat.mul_add] at this
        rw [if_neg (by omega), if_neg (by omega)]
theorem cmpL_val {L M : List Nat} (hL : Canon L) (hM : Canon M) : cmpL L M = cmpZ (val9 L) (val9 M) := by
  unfold cmpL
  split
  · rename_i h
    rw [cmpDown_val hL.lim hM.lim _ (Nat.le_refl _) (by omega), List.take_of_length_le (Nat.le_refl _), List.take_of_length_le (by omega)]
  · rename_i h
    rcases Nat.lt_or_gt_of_ne h with h | h
    · have := canon_lt hL.lim hM h
      unfold cmpZ; rw [if_pos h, if_pos this]
    · have := canon_lt hM.lim hL h
      unfold cmpZ; rw [if_neg (by omega), if_neg (by omega), if_neg (by omega), if_neg (by omega)]
theorem canon_len {L M : List Nat} (hL : Canon L) (hM : Canon M) (h : val9 M ≤ val9 L) : M.length ≤ L.length := by
  rcases Nat.lt_or_ge L.length M.length with hlt | hge
  · have := canon_lt hL.lim hM hlt; omega
  · exact hge
end Go.Proofs.YtbfbijokhlkekaaDoor
