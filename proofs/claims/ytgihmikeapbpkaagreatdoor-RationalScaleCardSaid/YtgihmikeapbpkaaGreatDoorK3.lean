/- Contracts of the functions that the statements reach, part 3: what was proved of each, callees first. -/
import Derived.Deep.RegionHeld3
import Derived.Lib.IndexBytes
import Derived.Deep.CutRange
import Derived.Test.YtgihmikeapbpkaaGreatDoorK2
namespace Go.Proofs.YtgihmikeapbpkaaGreatDoor
open Go.RowKit
set_option maxHeartbeats 800000
theorem nan_int (x : Int) (w : World) : Calls Tryz.prog 159 #[.int .i64 x] w fun e w' => e = .returned (.bool false) ∧ w = w' := by
 go_enter Tryz.func159, Tryz.ntmps159
 go_wp2
 go_ret
 exact ⟨by simp, rfl⟩
theorem nan_u32 (x : Int) (w : World) : Calls Tryz.prog 160 #[.int .u32 x] w fun e w' => e = .returned (.bool false) ∧ w = w' := by
 go_enter Tryz.func160, Tryz.ntmps160
 go_wp2
 go_ret
 exact ⟨by simp, rfl⟩
theorem cmp_int (x y : Nat) (w : World) : Calls Tryz.prog 126 #[.int .i64 x, .int .i64 y] w fun e w' => e = .returned (.int .i64 (cmpZ x y)) ∧ w = w' := by
 rcases Nat.lt_trichotomy x y with h | h | h
 ·go_enter Tryz.func126, Tryz.ntmps126
  go_wp2_with (go_at_call 159; refine (nan_int _ _).mono ?_; rintro e w' ⟨rfl, rfl⟩)
  go_ret
  exact ⟨ret_int (by unfold cmpZ; simp [h]), rfl⟩
 ·subst h
  go_enter Tryz.func126, Tryz.ntmps126
  go_wp2_with (go_at_call 159; refine (nan_int _ _).mono ?_; rintro e w' ⟨rfl, rfl⟩)
  go_ret
  exact ⟨ret_int (by unfold cmpZ; simp), rfl⟩
 ·go_enter Tryz.func126, Tryz.ntmps126
  go_wp2_with (go_at_call 159; refine (nan_int _ _).mono ?_; rintro e w' ⟨rfl, rfl⟩)
  go_ret
  exact ⟨ret_int (by unfold cmpZ; rw [if_neg (by omega), if_neg (by omega)]), rfl⟩
theorem cmp_u32 (x y : Nat) (w : World) : Calls Tryz.prog 127 #[.int .u32 x, .int .u32 y] w fun e w' => e = .returned (.int .i64 (cmpZ x y)) ∧ w = w' := by
 rcases Nat.lt_trichotomy x y with h | h | h
 ·go_enter Tryz.func127, Tryz.ntmps127
  go_wp2_with (go_at_call 160; refine (nan_u32 _ _).mono ?_; rintro e w' ⟨rfl, rfl⟩)
  go_ret
  exact ⟨ret_int (by unfold cmpZ; simp [h]), rfl⟩
 ·subst h
  go_enter Tryz.func127, Tryz.ntmps127
  go_wp2_with (go_at_call 160; refine (nan_u32 _ _).mono ?_; rintro e w' ⟨rfl, rfl⟩)
  go_ret
  exact ⟨ret_int (by unfold cmpZ; simp), rfl⟩
 ·go_enter Tryz.func127, Tryz.ntmps127
  go_wp2_with (go_at_call 160; refine (nan_u32 _ _).mono ?_; rintro e w' ⟨rfl, rfl⟩)
  go_ret
  exact ⟨ret_int (by unfold cmpZ; rw [if_neg (by omega), if_neg (by omega)]), rfl⟩
theorem compare_any (A A' : Option Addr) (c b o c' b' o' : Nat) (L M : List Nat) (w : World) (hl : L.length ≤ 1000000) (hm : M.length ≤ 1000000)
  (hA : 0 < L.length → A = some ⟨b, o, none⟩) (hcell : Cells .u32 w b o L) (hA' : 0 < M.length → A' = some ⟨b', o', none⟩) (hcell' : Cells .u32 w b' o' M) :
  Calls Tryz.prog 85 #[.slice A L.length c, .slice A' M.length c'] w fun e w' => e = .returned (.int .i64 (cmpL L M)) ∧ ∃ n, w' = w.drewN n := by
 generalize hn : L.length = n at *
 generalize hn' : M.length = n' at *
 have HN := Lib.hid hn
 have HN' := Lib.hid hn'
 clear hn hn'
 have HA := Lib.hid hA
 have HA' := Lib.hid hA'
 clear hA hA'
 by_cases hne : n = n'
 ·subst hne
  have hdec : ((n : Int) != (n : Int)) = false := by simp
  go_enter Tryz.func85, Tryz.ntmps85
  go_wp2
  go_loopw [5] (fun v wr => ∃ k : Nat, k ≤ n ∧ v = .int .i64 ((k : Int) - 1) ∧ Hid (∃ d, wr = w.drewN d) ∧ Hid (cmpDown L M k = cmpDown L M n)) (fun v _ => (intOf v + 1).toNat)
  case atStart => exact ⟨n, Nat.le_refl _, rfl, ⟨0, rfl⟩, rfl⟩
  case round =>
   obtain ⟨k, hk, rfl, hw, ht⟩ := hrel
   obtain ⟨d, rfl⟩ := hw.out
   rcases Nat.eq_zero_or_pos k with rfl | hpos
   ·have hd : decide ((0 : Int) ≤ ((0 : Nat) : Int) - 1) = false := by simp
    go_wp2
    go_ret
    exact ⟨by rw [cmpL, HN.out, HN'.out, if_pos rfl, ← ht.out]; rfl, d, rfl⟩
   ·obtain ⟨m, rfl⟩ : ∃ m, k = m + 1 := ⟨k - 1, by omega⟩
    have h1 : ((0 : Int) ≤ ((m + 1 : Nat) : Int) - 1) := by omega
    have hc1 := hcell m (by rw [HN.out]; omega)
    have hc2 := hcell' m (by rw [HN'.out]; omega)
    obtain rfl := HA.out (by omega)
    obtain rfl := HA'.out (by omega)
    have e1 : ((m + 1 : Nat) : Int) - 1 = (m : Int) := by omega
    rw [e1]
    clear e1 h1
    by_cases hz : nth L m = nth M m
    ·have hz' : (((nth L m : Nat) : Int) != ((nth M m : Nat) : Int)) = false := by simp [hz]
     go_wp2
     go_quiet (fail)
     go_wp2
     go_roundw
     case rel => exact ⟨m, by omega, rfl, ⟨d + nq, rfl⟩, by have := ht.out; rw [cmpDown, if_pos hz] at this; exact this⟩
     case measure => simp [intOf]
    ·have hz' : (((nth L m : Nat) : Int) != ((nth M m : Nat) : Int)) = true := by simp; omega
     go_wp2
     go_quiet (fail)
     go_wp2
     go_quiet ((go_at_call 127; exact quiet_more (same_quiet (cmp_u32 _ _))))
     go_wp2
     go_ret
     exact ⟨ret_int (by rw [cmpL, HN.out, HN'.out, if_pos rfl, ← ht.out, cmpDown, if_neg hz]), _, drew3 _ _ _ _⟩
 ·have hdec : ((n : Int) != (n' : Int)) = true := by simp; omega
  go_enter Tryz.func85, Tryz.ntmps85
  go_wp2_with (go_at_call 126; refine (cmp_int _ _ _).mono ?_; rintro e w' ⟨rfl, rfl⟩)
  go_ret
  exact ⟨ret_int (by rw [cmpL, HN.out, HN'.out, if_neg hne]), 0, rfl⟩
abbrev val9 (L : List Nat) : Nat := valB 1000000000 L
theorem trim_pack {w : World} {g B c : Nat} {R : List Nat} (hb : Blk .u32 104 w g R) (hR : Lim R) (hg : g < B) (hc : R.length ≤ c) :
  ∃ L, L.length = trimN R R.length ∧ Row .u32 w B (some ⟨g, 0, none⟩) c L ∧ Canon L ∧ val9 L = val9 R := by
 have htl := trimN_le R R.length
 have el : (R.take (trimN R R.length)).length = trimN R R.length := by rw [List.length_take]; omega
 refine ⟨R.take (trimN R R.length), el, (Row.ofBlk hb hg hc).take _, ⟨hR.take _, ?_⟩, ?_⟩
 ·rw [el]; intro h; rw [nth_take (by omega)]; exact trimN_top _ _ h
 ·rw [val9, trimN_val _ _ _ (Nat.le_refl _), List.take_of_length_le (Nat.le_refl _)]
theorem mult2 (A A' : Option Addr) (c c' : Nat) (L M : List Nat) (w : World) (hl : L.length ≤ 500000) (hml : M.length ≤ 500000)
  (hL : Lim L) (hM : Lim M) (hR : Row .u32 w w.heap.size A c L) (hR' : Row .u32 w w.heap.size A' c' M) :
  Calls Tryz.prog 82 #[.slice A L.length c, .slice A' M.length c'] w fun e w' => ∃ g c R, e = .returned (.slice (some ⟨g, 0, none⟩) R.length c) ∧
   Row .u32 w' w'.heap.size (some ⟨g, 0, none⟩) c R ∧ Canon R ∧ val9 R = val9 L * val9 M ∧ R.length ≤ L.length + M.length ∧ Below w.heap.size w w' ∧ w.heap.size ≤ g := by
 refine (multiply_any A A' c c' L M w (by omega) (by omega) hL hM hR hR').mono ?_
 rintro e w' ⟨rfl, hb, hbw⟩
 have hz : Lim (List.replicate (L.length + M.length) 0) := fun d hd => by have := (List.mem_replicate.1 hd).2; omega
 have hok := mulSt_ok hL hM hz L.length
 have hv := mul_val hL hM
 have hlen : (mulSt L M (List.replicate (L.length + M.length) 0) L.length).length = L.length + M.length := by rw [hok.2]; simp
 obtain ⟨R, h1, h2, h3, h4⟩ := trim_pack (c := L.length + M.length) hb hok.1 hb.lt (by omega)
 rw [hlen] at h1
 have htl := trimN_le (mulSt L M (List.replicate (L.length + M.length) 0) L.length) (L.length + M.length)
 exact ⟨_, _, R, by rw [h1], h2, h3, by rw [h4]; exact hv, by omega, hbw, Nat.le_refl _⟩
theorem subt2 (A A' : Option Addr) (c c' : Nat) (L M : List Nat) (w : World) (hl : L.length ≤ 1000000) (hml : M.length ≤ L.length)
  (hL : Lim L) (hM : Lim M) (hle : val9 M ≤ val9 L) (hR : Row .u32 w w.heap.size A c L) (hR' : Row .u32 w w.heap.size A' c' M) :
  Calls Tryz.prog 113 #[.slice A L.length c, .slice A' M.length c'] w fun e w' => ∃ g c R, e = .returned (.slice (some ⟨g, 0, none⟩) R.length c) ∧
   Row .u32 w' w'.heap.size (some ⟨g, 0, none⟩) c R ∧ Canon R ∧ val9 R + val9 M = val9 L ∧ R.length ≤ L.length ∧ Below w.heap.size w w' ∧ w.heap.size ≤ g := by
 refine (subtract_any A A' c c' L M w hl hml hL hM hR hR').mono ?_
 rintro e w' ⟨rfl, hb, hbw⟩
 have hok := subSt_ok hM hL L.length
 have hv := subSt_val hM hL L.length (Nat.le_refl _)
 rw [valB_take_over _ _ _ hml] at hv
 have hlt := valB_lt hok.1
 rw [hok.2.2] at hlt
 have hb0 : (subSt M L L.length).2 = 0 := by
  rcases Nat.eq_zero_or_pos (subSt M L L.length).2 with h | h
  ·exact h
  ·have h1 : (subSt M L L.length).2 = 1 := by have := hok.2.1; omega
   rw [h1] at hv; simp only [val9] at hle; omega
 rw [hb0] at hv
 obtain ⟨R, h1, h2, h3, h4⟩ := trim_pack (c := L.length) hb hok.1 hb.lt (by rw [hok.2.2]; exact Nat.le_refl _)
 rw [hok.2.2] at h1
 have htl := trimN_le (subSt M L L.length).1 L.length
 exact ⟨_, _, R, by rw [h1], h2, h3, by rw [h4]; simpa using hv, by omega, hbw, Nat.le_refl _⟩
theorem addl2 (A A' : Option Addr) (c c' : Nat) (L M : List Nat) (w : World) (hl : L.length ≤ 500000) (hml : M.length ≤ L.length)
  (hL : Lim L) (hM : Lim M) (hR : Row .u32 w w.heap.size A c L) (hR' : Row .u32 w w.heap.size A' c' M) :
  Calls Tryz.prog 112 #[.slice A L.length c, .slice A' M.length c'] w fun e w' => ∃ g c R, e = .returned (.slice (some ⟨g, 0, none⟩) R.length c) ∧
   Row .u32 w' w'.heap.size (some ⟨g, 0, none⟩) c R ∧ Canon R ∧ val9 R = val9 L + val9 M ∧ R.length ≤ L.length + 1 ∧ Below w.heap.size w w' ∧ w.heap.size ≤ g := by
 refine (add_long A A' c c' L M w (by omega) hml hL hM hR hR').mono ?_
 rintro e w' ⟨rfl, hb, hbw⟩
 have hL0 : Lim (L ++ [0]) := by intro d hd; rcases List.mem_append.1 hd with h | h; exact hL d h; simp at h; omega
 have hok := addSt_ok (o := 0) hM hL0 (L.length + 1)
 have hv := addSt_val (o := 0) hM hL0 (L.length + 1) (by simp)
 rw [valB_take_over _ _ _ (by omega), valB_append] at hv
 have hlen : (addSt 0 M (L ++ [0]) (L.length + 1)).1.length = L.length + 1 := by rw [hok.2.2]; simp
 have h1 := valB_lt hL
 have h2 := valB_lt hM
 have h3 : (1000000000 : Nat) ^ M.length ≤ 1000000000 ^ L.length := Nat.pow_le_pow_right (by omega) hml
 have hc0 : (addSt 0 M (L ++ [0]) (L.length + 1)).2 = 0 := by
  rcases Nat.eq_zero_or_pos (addSt 0 M (L ++ [0]) (L.length + 1)).2 with h | h
  ·exact h
  ·have h4 : (addSt 0 M (L ++ [0]) (L.length + 1)).2 = 1 := by have := hok.2.1; omega
   rw [h4] at hv
   have h5 : (1000000000 : Nat) ^ (0 + (L.length + 1)) = 1000000000 * 1000000000 ^ L.length := by rw [Nat.zero_add, Nat.pow_succ, Nat.mul_comm]
   rw [h5] at hv
   simp [valB] at hv
   omega
 rw [hc0] at hv
 obtain ⟨R, h1, h2, h3, h4⟩ := trim_pack (c := L.length + 1) hb hok.1 hb.lt (by omega)
 rw [hlen] at h1
 have htl := trimN_le (addSt 0 M (L ++ [0]) (L.length + 1)).1 (L.length + 1)
 refine ⟨_, _, R, by rw [h1], h2, h3, ?_, by omega, hbw, Nat.le_refl _⟩
 rw [h4]
 simp [valB] at hv
 exact hv
theorem canon_lt {L M : List Nat} (hL : Lim L) (hM : Canon M) (h : L.length < M.length) : val9 L < val9 M := by
 have h1 := valB_lt hL
 have h2 : (1000000000 : Nat) ^ L.length ≤ 1000000000 ^ (M.length - 1) := Nat.pow_le_pow_right (by omega) (by omega)
 have h3 := valB_take_succ 1000000000 M (M.length - 1) (by omega)
 rw [show M.length - 1 + 1 = M.length by omega, List.take_of_length_le (Nat.le_refl _)] at h3
 have h4 := hM.top (by omega)
 have h5 : 1000000000 ^ (M.length - 1) * 1 ≤ 1000000000 ^ (M.length - 1) * nth M (M.length - 1) := Nat.mul_le_mul_left _ (by omega)
 unfold val9
 omega
theorem cmpDown_val {L M : List Nat} (hL : Lim L) (hM : Lim M) (n : Nat) (h1 : n ≤ L.length) (h2 : n ≤ M.length) : cmpDown L M n = cmpZ (val9 (L.take n)) (val9 (M.take n)) := by
 induction n with
 | zero => simp [cmpDown, cmpZ, valB]
 | succ n ih =>
  have e1 := valB_take_succ 1000000000 L n (by omega)
  have e2 := valB_take_succ 1000000000 M n (by omega)
  have b1 := valB_lt (hL.take n)
  have b2 := valB_lt (hM.take n)
  rw [List.length_take, Nat.min_eq_left (by omega)] at b1 b2
  unfold cmpDown val9
  rw [e1, e2]
  split
  ·rename_i h
   rw [ih (by omega) (by omega), h]
   unfold cmpZ val9
   simp
  ·rename_i h
   generalize valB 1000000000 (L.take n) = x at *
   generalize valB 1000000000 (M.take n) = y at *
   generalize (1000000000 : Nat) ^ n = p at *
   unfold cmpZ
   rcases Nat.lt_or_gt_of_ne h with h | h
   ·rw [if_pos h]
    have : p * (nth L n + 1) ≤ p * nth M n := Nat.mul_le_mul_left _ h
    rw [Nat.mul_add] at this
    rw [if_pos (by omega)]
   ·rw [if_neg (by omega), if_neg (by omega)]
    have : p * (nth M n + 1) ≤ p * nth L n := Nat.mul_le_mul_left _ h
    rw [Nat.mul_add] at this
    rw [if_neg (by omega), if_neg (by omega)]
theorem cmpL_val {L M : List Nat} (hL : Canon L) (hM : Canon M) : cmpL L M = cmpZ (val9 L) (val9 M) := by
 unfold cmpL
 split
 ·rename_i h
  rw [cmpDown_val hL.lim hM.lim _ (Nat.le_refl _) (by omega), List.take_of_length_le (Nat.le_refl _), List.take_of_length_le (by omega)]
 ·rename_i h
  rcases Nat.lt_or_gt_of_ne h with h | h
  ·have := canon_lt hL.lim hM h
   unfold cmpZ; rw [if_pos h, if_pos this]
  ·have := canon_lt hM.lim hL h
   unfold cmpZ; rw [if_neg (by omega), if_neg (by omega), if_neg (by omega), if_neg (by omega)]
theorem canon_len {L M : List Nat} (hL : Canon L) (hM : Canon M) (h : val9 M ≤ val9 L) : M.length ≤ L.length := by
 rcases Nat.lt_or_ge L.length M.length with hlt | hge
 ·have := canon_lt hL.lim hM hlt; omega
 ·exact hge
def zI (neg : Bool) (L : List Nat) : Int := if neg then -(val9 L : Int) else (val9 L : Int)
theorem zI_mul (n m : Bool) {L M R : List Nat} (h : val9 R = val9 L * val9 M) (h0 : R.length = 0 → val9 R = 0) : zI ((n != m) && decide (0 < R.length)) R = zI n L * zI m M := by
 have hc : ((val9 R : Nat) : Int) = (val9 L : Int) * (val9 M : Int) := by rw [h]; simp
 unfold zI
 generalize (val9 L : Int) = x at *
 generalize (val9 M : Int) = y at *
 rcases Nat.eq_zero_or_pos R.length with h1 | h1
 ·have h2 := h0 h1
  rw [h2] at hc ⊢
  have e : (decide (0 < R.length)) = false := by rw [decide_eq_false_iff_not]; omega
  rw [e, Bool.and_false]
  cases n <;> cases m <;> simp <;> grind
 ·have e : (decide (0 < R.length)) = true := by rw [decide_eq_true_iff]; omega
  rw [e, Bool.and_true, hc]
  cases n <;> cases m <;> simp <;> grind
theorem canon_pos {L : List Nat} (h : Canon L) (h0 : 0 < L.length) : val9 L ≠ 0 := by
 have h1 : Canon ([] : List Nat) := ⟨fun _ h => absurd h (List.not_mem_nil), fun h => absurd h (Nat.lt_irrefl 0)⟩
 have h2 := canon_lt h1.lim h (by simpa using h0)
 have h3 : val9 [] = 0 := rfl
 omega
theorem val9_nil {L : List Nat} (h : L.length = 0) : val9 L = 0 := by rw [List.eq_nil_of_length_eq_zero h]; rfl
theorem Row.up {k : IntKind} {w W : World} {A : Option Addr} {c : Nat} {L : List Nat} (h : Row k w w.heap.size A c L) (hb : Below w.heap.size w W) : Row k W W.heap.size A c L := (h.below hb).more hb.size
theorem below_drew {B : Nat} {a w : World} (h : Below B a w) : Below B a w.drew := ⟨h.os, h.tape, h.output, h.size, h.block⟩
theorem below_undrew {B : Nat} {a w : World} (h : Below B a.drew w) : Below B a w := ⟨h.os, h.tape, h.output, h.size, h.block⟩
theorem below_undrewN {B n : Nat} {a w : World} (h : Below B (a.drewN n) w) : Below B a w := ⟨h.os, h.tape, h.output, h.size, h.block⟩
theorem below_a2 (w : World) (a b : Obj) : Below w.heap.size w ((w.alloc a).alloc b) := (below_alloc_new _).alloc (by simp) _
theorem below_a3 (w : World) (a b c : Obj) : Below w.heap.size w (((w.alloc a).alloc b).alloc c) := (below_a2 w a b).alloc (by simp; omega) _
theorem two {w w1 : World} {x y x' y' : Value} {t t' : TypeId} (h : Below ((w.alloc (.cells #[x, y] t)).alloc (.cells #[x', y'] t')).heap.size ((w.alloc (.cells #[x, y] t)).alloc (.cells #[x', y'] t')) w1) :
  w1.cell? ⟨w.heap.size, 0, none⟩ = some x ∧ w1.cell? ⟨w.heap.size, 1, none⟩ = some y ∧ w1.cell? ⟨w.heap.size + 1, 0, none⟩ = some x' ∧ w1.cell? ⟨w.heap.size + 1, 1, none⟩ = some y' ∧
  w1.frozen? ⟨w.heap.size + 1, 0, none⟩ = false ∧ w1.frozen? ⟨w.heap.size + 1, 1, none⟩ = false ∧ w.heap.size + 2 ≤ w1.heap.size ∧ Below (w.heap.size + 2) ((w.alloc (.cells #[x, y] t)).alloc (.cells #[x', y'] t')) w1 := by
 have s1 : (w.alloc (.cells #[x, y] t)).heap.size = w.heap.size + 1 := by simp
 have s2 : ((w.alloc (.cells #[x, y] t)).alloc (.cells #[x', y'] t')).heap.size = w.heap.size + 2 := by simp
 rw [s2] at h
 have hA : Below (w.heap.size + 1) (w.alloc (.cells #[x, y] t)) w1 := by
  have := (below_alloc_new (w := w.alloc (.cells #[x, y] t)) (.cells #[x', y'] t')).trans (Below.less h (by simp))
  rwa [s1] at this
 have hB : Below ((w.alloc (.cells #[x, y] t)).heap.size + 1) ((w.alloc (.cells #[x, y] t)).alloc (.cells #[x', y'] t')) w1 := by rw [s1]; exact h
 have a1 := boxed2 hA
 have a2 := boxed2 hB
 have f0 := boxedF hB 0
 have f1 := boxedF hB 1
 rw [s1] at a2 f0 f1
 exact ⟨a1.1, a1.2, a2.1, a2.2, f0, f1, by have := h.size; omega, h⟩
theorem three {w w1 : World} {x y x' y' x2 y2 : Value} {t t' t2 : TypeId} (h : Below (((w.alloc (.cells #[x, y] t)).alloc (.cells #[x', y'] t')).alloc (.cells #[x2, y2] t2)).heap.size (((w.alloc (.cells #[x, y] t)).alloc (.cells #[x', y'] t')).alloc (.cells #[x2, y2] t2)) w1) :
  w1.cell? ⟨w.heap.size, 0, none⟩ = some x ∧ w1.cell? ⟨w.heap.size, 1, none⟩ = some y ∧ w1.cell? ⟨w.heap.size + 1, 0, none⟩ = some x' ∧ w1.cell? ⟨w.heap.size + 1, 1, none⟩ = some y' ∧
  w1.cell? ⟨w.heap.size + 2, 0, none⟩ = some x2 ∧ w1.cell? ⟨w.heap.size + 2, 1, none⟩ = some y2 ∧ w1.frozen? ⟨w.heap.size + 2, 0, none⟩ = false ∧ w1.frozen? ⟨w.heap.size + 2, 1, none⟩ = false ∧
  w.heap.size + 3 ≤ w1.heap.size ∧ Below (w.heap.size + 3) (((w.alloc (.cells #[x, y] t)).alloc (.cells #[x', y'] t')).alloc (.cells #[x2, y2] t2)) w1 := by
 have s1 : (w.alloc (.cells #[x, y] t)).heap.size = w.heap.size + 1 := by simp
 have s3 : (((w.alloc (.cells #[x, y] t)).alloc (.cells #[x', y'] t')).alloc (.cells #[x2, y2] t2)).heap.size = w.heap.size + 3 := by simp
 rw [s3] at h
 have hA : Below (w.heap.size + 1) (w.alloc (.cells #[x, y] t)) w1 := by
  have := (below_a2 (w.alloc (.cells #[x, y] t)) (.cells #[x', y'] t') (.cells #[x2, y2] t2)).trans (Below.less h (by simp))
  rwa [s1] at this
 have a1 := boxed2 hA
 have hh := two (w := w.alloc (.cells #[x, y] t)) (w1 := w1) (by simpa using h)
 rw [s1] at hh
 exact ⟨a1.1, a1.2, hh.1, hh.2.1, hh.2.2.1, hh.2.2.2.1, hh.2.2.2.2.1, hh.2.2.2.2.2.1, by have := h.size; omega, h⟩
theorem two' {w w1 : World} {x y x' y' : Value} {t t' : TypeId} (h : Below (w.heap.size + 2) ((w.alloc (.cells #[x, y] t)).alloc (.cells #[x', y'] t')) w1) :
  w1.cell? ⟨w.heap.size, 0, none⟩ = some x ∧ w1.cell? ⟨w.heap.size, 1, none⟩ = some y ∧ w1.cell? ⟨w.heap.size + 1, 0, none⟩ = some x' ∧ w1.cell? ⟨w.heap.size + 1, 1, none⟩ = some y' ∧
  w1.frozen? ⟨w.heap.size + 1, 0, none⟩ = false ∧ w1.frozen? ⟨w.heap.size + 1, 1, none⟩ = false ∧ w.heap.size + 2 ≤ w1.heap.size ∧ Below (w.heap.size + 2) ((w.alloc (.cells #[x, y] t)).alloc (.cells #[x', y'] t')) w1 := by
 have s2 : ((w.alloc (.cells #[x, y] t)).alloc (.cells #[x', y'] t')).heap.size = w.heap.size + 2 := by simp
 exact two (by rw [s2]; exact h)
theorem three' {w w1 : World} {x y x' y' x2 y2 : Value} {t t' t2 : TypeId} (h : Below (w.heap.size + 3) (((w.alloc (.cells #[x, y] t)).alloc (.cells #[x', y'] t')).alloc (.cells #[x2, y2] t2)) w1) :
  w1.cell? ⟨w.heap.size, 0, none⟩ = some x ∧ w1.cell? ⟨w.heap.size, 1, none⟩ = some y ∧ w1.cell? ⟨w.heap.size + 1, 0, none⟩ = some x' ∧ w1.cell? ⟨w.heap.size + 1, 1, none⟩ = some y' ∧
  w1.cell? ⟨w.heap.size + 2, 0, none⟩ = some x2 ∧ w1.cell? ⟨w.heap.size + 2, 1, none⟩ = some y2 ∧ w1.frozen? ⟨w.heap.size + 2, 0, none⟩ = false ∧ w1.frozen? ⟨w.heap.size + 2, 1, none⟩ = false ∧
  w.heap.size + 3 ≤ w1.heap.size ∧ Below (w.heap.size + 3) (((w.alloc (.cells #[x, y] t)).alloc (.cells #[x', y'] t')).alloc (.cells #[x2, y2] t2)) w1 := by
 have s3 : (((w.alloc (.cells #[x, y] t)).alloc (.cells #[x', y'] t')).alloc (.cells #[x2, y2] t2)).heap.size = w.heap.size + 3 := by simp
 exact three (by rw [s3]; exact h)
theorem Row.box3 {k : IntKind} {w w1 : World} {B : Nat} {A : Option Addr} {c : Nat} {L : List Nat} {a b : Obj} {x y : Value} {t : TypeId} (h : Row k w1 B A c L)
  (hb : Below (w.heap.size + 3) (((w.alloc a).alloc b).alloc (.cells #[x, y] t)) w1)
  (hx : ∀ n, x ≠ .int k n) (hy : ∀ n, y ≠ .int k n) (u v : Value) : Row k ((w1.setCell ⟨w.heap.size + 1 + 1, 0, none⟩ u).setCell ⟨w.heap.size + 1 + 1, 1, none⟩ v) B A c L := by
 have s2 : ((w.alloc a).alloc b).heap.size = w.heap.size + 1 + 1 := by simp
 have := Row.box (w := (w.alloc a).alloc b) h (by rw [s2]; exact hb) hx hy u v
 rwa [s2] at this
theorem Row.box2 {k : IntKind} {w w1 : World} {B : Nat} {A : Option Addr} {c : Nat} {L : List Nat} {a : Obj} {x y : Value} {t : TypeId} (h : Row k w1 B A c L)
  (hb : Below (w.heap.size + 2) ((w.alloc a).alloc (.cells #[x, y] t)) w1)
  (hx : ∀ n, x ≠ .int k n) (hy : ∀ n, y ≠ .int k n) (u v : Value) : Row k ((w1.setCell ⟨w.heap.size + 1, 0, none⟩ u).setCell ⟨w.heap.size + 1, 1, none⟩ v) B A c L := by
 have s2 : (w.alloc a).heap.size = w.heap.size + 1 := by simp
 have := Row.box (w := w.alloc a) h (by rw [s2]; exact hb) hx hy u v
 rwa [s2] at this
theorem below_then {B : Nat} {a w w' : World} (h : Below B a w) (hb : Below w.heap.size w w') (hB : B ≤ w.heap.size) : Below B a w' := h.trans (Below.less hb hB)
set_option maxRecDepth 20000 in
set_option maxHeartbeats 3200000 in
theorem mul_any (n m : Bool) (A A' : Option Addr) (c c' : Nat) (L M : List Nat) (w : World) (hl : L.length ≤ 500000) (hml : M.length ≤ 500000)
  (hL : IntR w w.heap.size n A c L) (hM : IntR w w.heap.size m A' c' M) :
  Calls Tryz.prog 39 #[.agg #[.bool n, .slice A L.length c], .agg #[.bool m, .slice A' M.length c']] w fun e w' => ∃ k A c R, e = .returned (.agg #[.bool k, .slice A R.length c]) ∧
   IntR w' w'.heap.size k A c R ∧ zI k R = zI n L * zI m M ∧ R.length ≤ L.length + M.length ∧ Below w.heap.size w w' := by
 have hM2 := fun W h1 h2 => mult2 A A' c c' L M W hl hml hL.canon.lim hM.canon.lim h1 h2
 have HM2 := Lib.hid hM2
 clear hM2
 generalize hl' : L.length = l at *
 generalize hm' : M.length = l2 at *
 have HLL := Lib.hid hl'
 have HML := Lib.hid hm'
 clear hl' hm'
 go_enter Tryz.func39, Tryz.ntmps39
 go_wp2
 have hne1 : ¬ w.heap.size = w.heap.size + 1 + 1 := by omega
 have hne2 : ¬ w.heap.size + 1 + 1 = w.heap.size := by omega
 go_region_held3 (fun w' => w'.cell? ⟨w.heap.size, 0, none⟩ = some (.bool n) ∧ w'.cell? ⟨w.heap.size, 1, none⟩ = some (.slice A l c) ∧
   w'.cell? ⟨w.heap.size + 1, 0, none⟩ = some (.bool m) ∧ w'.cell? ⟨w.heap.size + 1, 1, none⟩ = some (.slice A' l2 c')) (go_keep)
  (first
   | (go_at_call 82; refine (HM2.out _ (hL.row.up (below_drew (below_a3 _ _ _ _))) (hM.row.up (below_drew (below_a3 _ _ _ _)))).mono ?_; rintro e w1 ⟨g, c1, R, rfl, hr1, hcan1, hv1, hl1, hb1, _⟩; have HB1 := Lib.hid (three (below_undrew hb1)).2.2.2.2.2.2.2.2.2; have X := three (below_undrew hb1); have hq1 := X.1; have hq2 := X.2.1; have hq3 := X.2.2.1; have hq4 := X.2.2.2.1; have hq5 := X.2.2.2.2.1; have hq6 := X.2.2.2.2.2.1; have hq7 := X.2.2.2.2.2.2.1; have hq8 := X.2.2.2.2.2.2.2.1; have hq9 := X.2.2.2.2.2.2.2.2.1; clear X hb1)
   | (go_at_call 77; refine (signed_any _ _ _ _ _).mono ?_; rintro e w2 ⟨rfl, hb2⟩; have HB2 := Lib.hid (below_then HB1.out hb2 hq9); have HR2 := Lib.hid (hr1.below hb2); have hs2 := hb2.size; clear hq1 hq2 hq3 hq4 hq5 hq6 hq7 hq8 hr1 hb2; have X := three' HB2.out; have hq1 := X.1; have hq2 := X.2.1; have hq3 := X.2.2.1; have hq4 := X.2.2.2.1; have hq5 := X.2.2.2.2.1; have hq6 := X.2.2.2.2.2.1; have hq7 := X.2.2.2.2.2.2.1; have hq8 := X.2.2.2.2.2.2.2.1; clear X))
 all_goals
  go_wp2
  have hbw : Below w.heap.size w w2 := (below_a3 w _ _ _).trans (Below.less HB2.out (by omega))
  refine bodyPost_ret (v := .agg #[.bool (!(n == m) && decide (0 < R.length)), .slice (some ⟨g, 0, none⟩) R.length c1]) (by simp [results, Tryz.results39, go_sem, hq5, hq6]) rfl
   ⟨_, _, _, R, rfl, ?_, zI_mul n m hv1 val9_nil, hl1, (hbw.setCell (by simp; omega) _).setCell (by simp; omega) _⟩
  rw [setCell_size, setCell_size]
  refine ⟨(HR2.out.more hs2).box3 HB2.out (fun _ => by simp) (fun _ => by simp) _ _, hcan1, fun hk hR => ?_⟩
  rw [hR] at hk
  simp at hk
set_option maxHeartbeats 800000 in
theorem add_short (A A' : Option Addr) (c c' : Nat) (L M : List Nat) (w : World) (hl : L.length ≤ 1000000) (hml : M.length < L.length)
  (hL : Lim L) (hM : Lim M) (hR : Row .u32 w w.heap.size A c L) (hR' : Row .u32 w w.heap.size A' c' M) :
  Calls Tryz.prog 112 #[.slice A' M.length c', .slice A L.length c] w fun e w' =>
   let R := (addSt 0 M (L ++ [0]) (L.length + 1)).1
   e = .returned (.slice (some ⟨w.heap.size, 0, none⟩) (trimN R (L.length + 1)) (L.length + 1)) ∧ Blk .u32 104 w' w.heap.size R ∧ Below w.heap.size w w' := by
 obtain ⟨i0, hi, hz0, hz1, hz2⟩ := info_parts info68
 generalize hl' : L.length = l at *
 generalize hm' : M.length = m at *
 have HL := Lib.hid hl'
 have HM := Lib.hid hm'
 clear hl' hm'
 have hyes : m < l := by omega
 go_enter Tryz.func112, Tryz.ntmps112
 go_wp2_with (first
  | (refine wpList_make_zeros _ rfl (.tmp 15) (.tmp 15) 23 rfl 104 .u32 i0 4 Tryz.underlying23 hi hz0 hz1 hz2 .i64 .i64 _ _ (l + 1) rfl rfl (by omega) (by omega) (by omega) (by omega) ?_; intro w1 hb1 hB1 hs1)
  | (refine wpList_copy_row rfl (.tmp 17) (.tmp 18) 23 23 rfl 104 Tryz.underlying23 size68 .u32 104 w.heap.size (l + 1) (l + 1) c A (List.replicate (l + 1) 0) L rfl (by rw [HL.out]; rfl) hb1.out (hR.below hB1) (by rw [HL.out]; omega) (by simp) ?_; intro w2 hb2 hB2)
  | fail)
 have hb3 := hb2.out
 have e1 : splice (List.replicate (l + 1) 0) 0 L = L ++ [0] := by
  simp [splice, HL.out]
 rw [e1] at hb3
 have hlen : (L ++ [0]).length = l + 1 := by simp [HL.out]
 have hA := addTo_any w.heap.size 0 (l + 1) (l + 1) A' c' (L ++ [0]) M w2 (by omega) (by omega) (by rw [HM.out]; omega)
  (by intro d hd; rcases List.mem_append.1 hd with h | h; exact hL d h; simp at h; omega) hM hb3 ((hR'.below hB1).below hB2)
 rw [HM.out] at hA
 clear hlen e1 hb2 hb1 hb3
 refine hA.mono ?_
 rintro e w3 ⟨rfl, hb4, hg4⟩
 have hB4 : Below w.heap.size w w3 := grown_below (hB1.trans hB2) hg4 (Nat.le_refl _) (hB1.trans hB2).size
 have H4 := Lib.hid hb4
 have ok := addSt_ok (o := 0) hM (M := L ++ [0]) (by intro d hd; rcases List.mem_append.1 hd with h | h; exact hL d h; simp at h; omega) (l + 1)
 have hlen : (addSt 0 M (L ++ [0]) (l + 1)).1.length = l + 1 := by rw [ok.2.2]; simp [HL.out]
 have hT := trim_any (some ⟨w.heap.size, 0, none⟩) (l + 1) w.heap.size 0 (addSt 0 M (L ++ [0]) (l + 1)).1 w3 (by omega) (by omega) (fun _ => rfl) hb4.cells
 rw [hlen] at hT
 clear ok hlen hb4
 go_wp2_with fail
 refine hT.mono ?_
 rintro e w4 ⟨rfl, rfl⟩
 go_wp2_with fail
 go_ret
 exact ⟨rfl, H4.out, hB4⟩
set_option maxHeartbeats 3200000
set_option maxRecDepth 20000
theorem Row.apart {k : IntKind} {w : World} {B g o c : Nat} {L : List Nat} (h : Row k w B (some ⟨g, o, none⟩) c L) {p : Addr} (hp : p.block ≠ g) (u : Value) : Row k (w.setCell p u) B (some ⟨g, o, none⟩) c L :=
 ⟨h.len, fun h0 => by
  obtain ⟨b, o', e, hb, hc⟩ := h.spot h0
  have e2 := Option.some.inj e
  injection e2 with e3 e4 e5
  subst e3
  exact ⟨_, o', e, hb, hc.keep fun j => World.cell?_setCell_other _ _ _ _ (fun e => hp (congrArg Addr.block e))⟩⟩
theorem compare_row (A A' : Option Addr) (c c' : Nat) (L M : List Nat) (w : World) (hl : L.length ≤ 1000000) (hm : M.length ≤ 1000000) (hR : Row .u32 w w.heap.size A c L) (hR' : Row .u32 w w.heap.size A' c' M) (hL : Canon L) (hM : Canon M) :
  Calls Tryz.prog 85 #[.slice A L.length c, .slice A' M.length c'] w fun e w' => e = .returned (.int .i64 (cmpZ (val9 L) (val9 M))) ∧ ∃ n, w' = w.drewN n := by
 have H : ∃ b o, (0 < L.length → A = some ⟨b, o, none⟩) ∧ Cells .u32 w b o L := by
  rcases Nat.eq_zero_or_pos L.length with h | h
  ·exact ⟨0, 0, fun h1 => by omega, fun j hj => by omega⟩
  ·obtain ⟨b, o, e, _, hc⟩ := hR.spot h; exact ⟨b, o, fun _ => e, hc⟩
 have H' : ∃ b o, (0 < M.length → A' = some ⟨b, o, none⟩) ∧ Cells .u32 w b o M := by
  rcases Nat.eq_zero_or_pos M.length with h | h
  ·exact ⟨0, 0, fun h1 => by omega, fun j hj => by omega⟩
  ·obtain ⟨b, o, e, _, hc⟩ := hR'.spot h; exact ⟨b, o, fun _ => e, hc⟩
 obtain ⟨b, o, h1, h2⟩ := H
 obtain ⟨b', o', h3, h4⟩ := H'
 rw [← cmpL_val hL hM]
 exact compare_any A A' c b o c' b' o' L M w hl hm h1 h2 h3 h4
theorem zI_neg (n : Bool) {L R : List Nat} (h : val9 R = val9 L) (h0 : R.length = 0 → val9 R = 0) : zI ((!n) && decide (0 < R.length)) R = - zI n L := by
 unfold zI
 rcases Nat.eq_zero_or_pos R.length with h1 | h1
 ·have h2 := h0 h1
  have e : (decide (0 < R.length)) = false := by rw [decide_eq_false_iff_not]; omega
  rw [e, Bool.and_false]
  rw [h] at h2 ⊢
  rw [h2]
  cases n <;> simp
 ·have e : (decide (0 < R.length)) = true := by rw [decide_eq_true_iff]; omega
  rw [e, Bool.and_true, h]
  cases n <;> simp
theorem neg_any (n : Bool) (A : Option Addr) (c : Nat) (L : List Nat) (w : World) (hl : L.length ≤ 500000) (hL : IntR w w.heap.size n A c L) :
  Calls Tryz.prog 46 #[.agg #[.bool n, .slice A L.length c]] w fun e w' => ∃ k A c, e = .returned (.agg #[.bool k, .slice A L.length c]) ∧
   IntR w' w'.heap.size k A c L ∧ zI k L = - zI n L ∧ Below w.heap.size w w' := by
 have hM2 := fun W h1 => copied_any A c L W (by omega) h1
 have HM2 := Lib.hid hM2
 clear hM2
 have hz := zI_neg n (L := L) (R := L) rfl val9_nil
 have HZ := Lib.hid hz
 clear hz
 generalize hl' : L.length = l at *
 have HLL := Lib.hid hl'
 clear hl'
 go_enter Tryz.func46, Tryz.ntmps46
 go_wp2
 have hne1 : ¬ w.heap.size = w.heap.size + 1 := by omega
 have hne2 : ¬ w.heap.size + 1 = w.heap.size := by omega
 go_region_held3 (fun w' => w'.cell? ⟨w.heap.size, 0, none⟩ = some (.bool n) ∧ w'.cell? ⟨w.heap.size, 1, none⟩ = some (.slice A l c)) (go_keep)
  (first
   | (go_at_call 89; (with_reducible refine (HM2.out _ (hL.row.up (below_drew (below_a2 _ _ _)))).mono ?_); rintro e w1 ⟨rfl, hk1, hb1⟩; have X := two (below_undrew hb1); have hq1 := X.1; have hq2 := X.2.1; have hq3 := X.2.2.1; have hq4 := X.2.2.2.1; have hq5 := X.2.2.2.2.1; have hq6 := X.2.2.2.2.2.1; have hs1 := X.2.2.2.2.2.2.1; have HB1 := Lib.hid X.2.2.2.2.2.2.2; clear X hb1)
   | (go_at_call 77; refine (signed_any _ _ _ _ _).mono ?_; rintro e w2 ⟨rfl, hb2⟩; have HB2 := Lib.hid (below_then HB1.out hb2 hs1); have hk2 := hk1.below hb2 hk1.lt; have hs2 := hb2.size; clear hq1 hq2 hq3 hq4 hq5 hq6 hb2; have X := two' HB2.out; have hq1 := X.1; have hq2 := X.2.1; have hq3 := X.2.2.1; have hq4 := X.2.2.2.1; have hq5 := X.2.2.2.2.1; have hq6 := X.2.2.2.2.2.1; clear X))
 all_goals
  go_wp2
  have hbw : Below w.heap.size w w2 := (below_a2 w _ _).trans (Below.less HB2.out (by omega))
  refine bodyPost_ret (v := .agg #[.bool ((!n) && decide (0 < l)), .slice (some ⟨w.heap.size + 1 + 1, 0, none⟩) l l]) (by simp [results, Tryz.results46, go_sem, hq3, hq4]) rfl
   ⟨_, _, _, rfl, ?_, by rw [← HZ.out], (hbw.setCell (by simp) _).setCell (by simp) _⟩
  rw [setCell_size, setCell_size]
  have hk3 : Blk .u32 104 w2 (w.heap.size + 1 + 1) L := by simpa using hk2
  have hr : Row .u32 w2 w2.heap.size (some ⟨w.heap.size + 1 + 1, 0, none⟩) l L := Row.ofBlk hk3 hk3.lt (by rw [HLL.out]; exact Nat.le_refl _)
  refine ⟨(hr.apart (by simp) _).apart (by simp) _, hL.canon, fun hk hR => ?_⟩
  have h9 : l = 0 := by rw [← HLL.out, hR]; rfl
  rw [h9] at hk
  simp at hk
def cmpI (x y : Int) : Int := if x < y then -1 else if x = y then 0 else 1
theorem cmpZ_I (x y : Nat) : cmpZ x y = cmpI x y := by
 unfold cmpZ cmpI
 by_cases h1 : x < y
 ·rw [if_pos h1, if_pos (by omega)]
 ·rw [if_neg h1, if_neg (by omega : ¬ (x : Int) < (y : Int))]
  by_cases h2 : x = y
  ·rw [if_pos h2, if_pos (by omega)]
  ·rw [if_neg h2, if_neg (by omega : ¬ (x : Int) = (y : Int))]
theorem cmpZ_neg (x y : Nat) : cmpZ x y = cmpI (-(y : Int)) (-(x : Int)) := by
 unfold cmpZ cmpI
 by_cases h1 : x < y
 ·rw [if_pos h1, if_pos (by omega)]
 ·rw [if_neg h1, if_neg (by omega : ¬ -(y : Int) < -(x : Int))]
  by_cases h2 : x = y
  ·rw [if_pos h2, if_pos (by omega)]
  ·rw [if_neg h2, if_neg (by omega : ¬ -(y : Int) = -(x : Int))]
theorem cmp_any (n m : Bool) (A A' : Option Addr) (c c' : Nat) (L M : List Nat) (w : World) (hl : L.length ≤ 1000000) (hml : M.length ≤ 1000000)
  (hL : IntR w w.heap.size n A c L) (hM : IntR w w.heap.size m A' c' M) :
  Calls Tryz.prog 43 #[.agg #[.bool n, .slice A L.length c], .agg #[.bool m, .slice A' M.length c']] w fun e w' => e = .returned (.int .i64 (cmpI (zI n L) (zI m M))) ∧ Below w.heap.size w w' := by
 have hc0 := fun W (h1 : Row .u32 W W.heap.size A c L) (h2 : Row .u32 W W.heap.size A' c' M) => compare_row A A' c c' L M W hl hml h1 h2 hL.canon hM.canon
 have hc1 := fun W (h1 : Row .u32 W W.heap.size A c L) (h2 : Row .u32 W W.heap.size A' c' M) => compare_row A' A c' c M L W hml hl h2 h1 hM.canon hL.canon
 have HC0 := Lib.hid hc0
 have HC1 := Lib.hid hc1
 have hp1 : n = true → 0 < val9 L := fun h => Nat.pos_of_ne_zero (canon_pos hL.canon (List.length_pos_iff.2 (hL.sgn h)))
 have hp2 : m = true → 0 < val9 M := fun h => Nat.pos_of_ne_zero (canon_pos hM.canon (List.length_pos_iff.2 (hM.sgn h)))
 have HP1 := Lib.hid hp1
 have HP2 := Lib.hid hp2
 clear hc0 hc1 hp1 hp2
 generalize hl' : L.length = l at *
 generalize hm' : M.length = l2 at *
 have HLL := Lib.hid hl'
 have HML := Lib.hid hm'
 clear hl' hm'
 cases n
 ·cases m
  ·go_enter Tryz.func43, Tryz.ntmps43
   go_wp2_with fail
   refine (HC0.out _ (hL.row.up (below_a2 _ _ _)) (hM.row.up (below_a2 _ _ _))).mono ?_
   rintro e w1 ⟨rfl, nq, rfl⟩
   go_wp2_with fail
   go_ret
   exact ⟨ret_int (by rw [cmpZ_I]; rfl), below_drewN (below_a2 _ _ _) _⟩
  ·go_enter Tryz.func43, Tryz.ntmps43
   go_wp2_with fail
   go_ret
   have := HP2.out (by first | trivial | rfl)
   exact ⟨ret_int (by unfold cmpI zI; simp; omega), below_a2 _ _ _⟩
 ·cases m
  ·go_enter Tryz.func43, Tryz.ntmps43
   go_wp2_with fail
   go_ret
   have := HP1.out (by first | trivial | rfl)
   exact ⟨ret_int (by unfold cmpI zI; simp; omega), below_a2 _ _ _⟩
  ·go_enter Tryz.func43, Tryz.ntmps43
   go_wp2_with fail
   refine (HC1.out _ (hL.row.up (below_a2 _ _ _)) (hM.row.up (below_a2 _ _ _))).mono ?_
   rintro e w1 ⟨rfl, nq, rfl⟩
   go_wp2_with fail
   go_ret
   exact ⟨ret_int (by rw [cmpZ_neg]; rfl), below_drewN (below_a2 _ _ _) _⟩
theorem addZI (n : Bool) {L M R : List Nat} (h : val9 R = val9 L + val9 M) (h0 : R.length = 0 → val9 R = 0) : zI (n && decide (0 < R.length)) R = zI n L + zI n M := by
 unfold zI
 rcases Nat.eq_zero_or_pos R.length with h1 | h1
 ·have h2 := h0 h1
  have e : (decide (0 < R.length)) = false := by rw [decide_eq_false_iff_not]; omega
  rw [e, Bool.and_false]
  cases n <;> simp <;> omega
 ·have e : (decide (0 < R.length)) = true := by rw [decide_eq_true_iff]; omega
  rw [e, Bool.and_true]
  cases n <;> simp <;> omega
theorem subZI (n : Bool) {L M R : List Nat} (h : val9 R + val9 M = val9 L) (h0 : R.length = 0 → val9 R = 0) : zI (n && decide (0 < R.length)) R = zI n L + zI (!n) M := by
 unfold zI
 rcases Nat.eq_zero_or_pos R.length with h1 | h1
 ·have h2 := h0 h1
  have e : (decide (0 < R.length)) = false := by rw [decide_eq_false_iff_not]; omega
  rw [e, Bool.and_false]
  cases n <;> simp <;> omega
 ·have e : (decide (0 < R.length)) = true := by rw [decide_eq_true_iff]; omega
  rw [e, Bool.and_true]
  cases n <;> simp <;> omega
theorem adds2 (A A' : Option Addr) (c c' : Nat) (L M : List Nat) (w : World) (hl : L.length ≤ 500000) (hml : M.length < L.length)
  (hL : Lim L) (hM : Lim M) (hR : Row .u32 w w.heap.size A c L) (hR' : Row .u32 w w.heap.size A' c' M) :
  Calls Tryz.prog 112 #[.slice A' M.length c', .slice A L.length c] w fun e w' => ∃ g c R, e = .returned (.slice (some ⟨g, 0, none⟩) R.length c) ∧
   Row .u32 w' w'.heap.size (some ⟨g, 0, none⟩) c R ∧ Canon R ∧ val9 R = val9 L + val9 M ∧ R.length ≤ L.length + 1 ∧ Below w.heap.size w w' ∧ w.heap.size ≤ g := by
 refine (add_short A A' c c' L M w (by omega) hml hL hM hR hR').mono ?_
 rintro e w' ⟨rfl, hb, hbw⟩
 have hL0 : Lim (L ++ [0]) := by intro d hd; rcases List.mem_append.1 hd with h | h; exact hL d h; simp at h; omega
 have hok := addSt_ok (o := 0) hM hL0 (L.length + 1)
 have hv := addSt_val (o := 0) hM hL0 (L.length + 1) (by simp)
 rw [valB_take_over _ _ _ (by omega), valB_append] at hv
 have hlen : (addSt 0 M (L ++ [0]) (L.length + 1)).1.length = L.length + 1 := by rw [hok.2.2]; simp
 have h1 := valB_lt hL
 have h2 := valB_lt hM
 have h3 : (1000000000 : Nat) ^ M.length ≤ 1000000000 ^ L.length := Nat.pow_le_pow_right (by omega) (by omega)
 have hc0 : (addSt 0 M (L ++ [0]) (L.length + 1)).2 = 0 := by
  rcases Nat.eq_zero_or_pos (addSt 0 M (L ++ [0]) (L.length + 1)).2 with h | h
  ·exact h
  ·have h4 : (addSt 0 M (L ++ [0]) (L.length + 1)).2 = 1 := by have := hok.2.1; omega
   rw [h4] at hv
   have h5 : (1000000000 : Nat) ^ (0 + (L.length + 1)) = 1000000000 * 1000000000 ^ L.length := by rw [Nat.zero_add, Nat.pow_succ, Nat.mul_comm]
   rw [h5] at hv
   simp [valB] at hv
   omega
 rw [hc0] at hv
 obtain ⟨R, h1, h2, h3, h4⟩ := trim_pack (c := L.length + 1) hb hok.1 hb.lt (by omega)
 rw [hlen] at h1
 have htl := trimN_le (addSt 0 M (L ++ [0]) (L.length + 1)).1 (L.length + 1)
 refine ⟨_, _, R, by rw [h1], h2, h3, ?_, by omega, hbw, Nat.le_refl _⟩
 rw [h4]
 simp [valB] at hv
 exact hv
theorem adda2 (A A' : Option Addr) (c c' : Nat) (L M : List Nat) (w : World) (hl : L.length ≤ 500000) (hml : M.length ≤ 500000)
  (hL : Lim L) (hM : Lim M) (hR : Row .u32 w w.heap.size A c L) (hR' : Row .u32 w w.heap.size A' c' M) :
  Calls Tryz.prog 112 #[.slice A L.length c, .slice A' M.length c'] w fun e w' => ∃ g c R, e = .returned (.slice (some ⟨g, 0, none⟩) R.length c) ∧
   Row .u32 w' w'.heap.size (some ⟨g, 0, none⟩) c R ∧ Canon R ∧ val9 R = val9 L + val9 M ∧ R.length ≤ L.length + M.length + 1 ∧ Below w.heap.size w w' ∧ w.heap.size ≤ g := by
 rcases Nat.lt_or_ge L.length M.length with h | h
 ·refine (adds2 A' A c' c M L w hml h hM hL hR' hR).mono ?_
  rintro e w' ⟨g, c, R, h1, h2, h3, h4, h5, h6⟩
  exact ⟨g, c, R, h1, h2, h3, by rw [h4, Nat.add_comm], by omega, h6⟩
 ·refine (addl2 A A' c c' L M w hl h hL hM hR hR').mono ?_
  rintro e w' ⟨g, c, R, h1, h2, h3, h4, h5, h6⟩
  exact ⟨g, c, R, h1, h2, h3, h4, by omega, h6⟩
theorem add_same (n : Bool) (A A' : Option Addr) (c c' : Nat) (L M : List Nat) (w : World) (hl : L.length ≤ 500000) (hml : M.length ≤ 500000)
  (hL : IntR w w.heap.size n A c L) (hM : IntR w w.heap.size n A' c' M) :
  Calls Tryz.prog 66 #[.agg #[.bool n, .slice A L.length c], .agg #[.bool n, .slice A' M.length c']] w fun e w' => ∃ k A c R, e = .returned (.agg #[.bool k, .slice A R.length c]) ∧
   IntR w' w'.heap.size k A c R ∧ zI k R = zI n L + zI n M ∧ R.length ≤ L.length + M.length + 1 ∧ Below w.heap.size w w' := by
 have hM2 := fun W h1 h2 => adda2 A A' c c' L M W hl hml hL.canon.lim hM.canon.lim h1 h2
 have HM2 := Lib.hid hM2
 clear hM2
 generalize hl' : L.length = l at *
 generalize hm' : M.length = l2 at *
 have HLL := Lib.hid hl'
 have HML := Lib.hid hm'
 clear hl' hm'
 have hbb : (n == n) = true := by simp
 go_enter Tryz.func66, Tryz.ntmps66
 go_wp2
 have hne1 : ¬ w.heap.size = w.heap.size + 1 + 1 := by omega
 have hne2 : ¬ w.heap.size + 1 + 1 = w.heap.size := by omega
 go_region_held3 (fun w' => w'.cell? ⟨w.heap.size, 0, none⟩ = some (.bool n) ∧ w'.cell? ⟨w.heap.size, 1, none⟩ = some (.slice A l c) ∧
   w'.cell? ⟨w.heap.size + 1, 0, none⟩ = some (.bool n) ∧ w'.cell? ⟨w.heap.size + 1, 1, none⟩ = some (.slice A' l2 c')) (go_keep)
  (first
   | (go_at_call 112; (with_reducible refine (HM2.out _ (hL.row.up (below_drew (below_a3 _ _ _ _))) (hM.row.up (below_drew (below_a3 _ _ _ _)))).mono ?_); rintro e w1 ⟨g, c1, R, rfl, hr1, hcan1, hv1, hl1, hb1, hgg⟩; have HB1 := Lib.hid (three (below_undrew hb1)).2.2.2.2.2.2.2.2.2; have X := three (below_undrew hb1); have hq1 := X.1; have hq2 := X.2.1; have hq3 := X.2.2.1; have hq4 := X.2.2.2.1; have hq5 := X.2.2.2.2.1; have hq6 := X.2.2.2.2.2.1; have hq7 := X.2.2.2.2.2.2.1; have hq8 := X.2.2.2.2.2.2.2.1; have hq9 := X.2.2.2.2.2.2.2.2.1; clear X hb1)
   | (go_at_call 77; refine (signed_any _ _ _ _ _).mono ?_; rintro e w2 ⟨rfl, hb2⟩; have HB2 := Lib.hid (below_then HB1.out hb2 hq9); have HR2 := Lib.hid (hr1.below hb2); have hs2 := hb2.size; clear hq1 hq2 hq3 hq4 hq5 hq6 hq7 hq8 hr1 hb2; have X := three' HB2.out; have hq1 := X.1; have hq2 := X.2.1; have hq3 := X.2.2.1; have hq4 := X.2.2.2.1; have hq5 := X.2.2.2.2.1; have hq6 := X.2.2.2.2.2.1; have hq7 := X.2.2.2.2.2.2.1; have hq8 := X.2.2.2.2.2.2.2.1; clear X))
 all_goals
  go_wp2
  have hbw : Below w.heap.size w w2 := (below_a3 w _ _ _).trans (Below.less HB2.out (by omega))
  refine bodyPost_ret (v := .agg #[.bool (n && decide (0 < R.length)), .slice (some ⟨g, 0, none⟩) R.length c1]) (by simp [results, Tryz.results66, go_sem, hq5, hq6]) rfl
   ⟨_, _, _, R, rfl, ?_, addZI n hv1 val9_nil, hl1, (hbw.setCell (by simp; omega) _).setCell (by simp; omega) _⟩
  rw [setCell_size, setCell_size]
  refine ⟨(HR2.out.more hs2).box3 HB2.out (fun _ => by simp) (fun _ => by simp) _ _, hcan1, fun hk hR => ?_⟩
  rw [hR] at hk
  simp at hk
set_option maxHeartbeats 3200000
set_option maxRecDepth 20000
theorem cmp_lt {x y : Nat} (h : x < y) : cmpZ x y = -1 := by unfold cmpZ; rw [if_pos h]
theorem cmp_ge {x y : Nat} (h : y ≤ x) : 0 ≤ cmpZ x y := by unfold cmpZ; rw [if_neg (by omega)]; split <;> omega
theorem add_diff_ge (n : Bool) (A A' : Option Addr) (c c' : Nat) (L M : List Nat) (w : World) (hl : L.length ≤ 500000) (hml : M.length ≤ 500000) (hle : val9 M ≤ val9 L)
  (hL : IntR w w.heap.size n A c L) (hM : IntR w w.heap.size (!n) A' c' M) :
  Calls Tryz.prog 66 #[.agg #[.bool n, .slice A L.length c], .agg #[.bool (!n), .slice A' M.length c']] w fun e w' => ∃ k A c R, e = .returned (.agg #[.bool k, .slice A R.length c]) ∧
   IntR w' w'.heap.size k A c R ∧ zI k R = zI n L + zI (!n) M ∧ R.length ≤ L.length + M.length + 1 ∧ Below w.heap.size w w' := by
 have hM2 := fun W h1 h2 => subt2 A A' c c' L M W (by omega) (canon_len hL.canon hM.canon hle) hL.canon.lim hM.canon.lim hle h1 h2
 have HM2 := Lib.hid hM2
 have hC := fun W h1 h2 => compare_row A A' c c' L M W (by omega) (by omega) h1 h2 hL.canon hM.canon
 have hz := cmp_ge hle
 generalize cmpZ (val9 L) (val9 M) = z at *
 have HC := Lib.hid hC
 clear hM2 hC
 generalize hl' : L.length = l at *
 generalize hm' : M.length = l2 at *
 have HLL := Lib.hid hl'
 have HML := Lib.hid hm'
 clear hl' hm' hle
 have hbb : (n == !n) = false := by cases n <;> rfl
 go_enter Tryz.func66, Tryz.ntmps66
 go_wp2_with fail
 refine (HC.out _ (hL.row.up (below_a3 _ _ _ _)) (hM.row.up (below_a3 _ _ _ _))).mono ?_
 rintro e w9 ⟨rfl, nq, rfl⟩
 go_wp2_with fail
 have hne1 : ¬ w.heap.size = w.heap.size + 1 + 1 := by omega
 have hne2 : ¬ w.heap.size + 1 + 1 = w.heap.size := by omega
 have hup := below_drewN (below_a3 w (.cells #[.bool n, .slice A l c] 25) (.cells #[.bool (!n), .slice A' l2 c'] 25) (.cells #[.bool false, .slice none 0 0] 25)) (nq + 1)
 have HUP := Lib.hid hup
 clear hup
 go_region_held3 (fun w' => w'.cell? ⟨w.heap.size, 0, none⟩ = some (.bool n) ∧ w'.cell? ⟨w.heap.size, 1, none⟩ = some (.slice A l c) ∧
   w'.cell? ⟨w.heap.size + 1, 0, none⟩ = some (.bool (!n)) ∧ w'.cell? ⟨w.heap.size + 1, 1, none⟩ = some (.slice A' l2 c')) (go_keep)
  (first
   | (go_at_call 113; (with_reducible refine (HM2.out _ (hL.row.up HUP.out) (hM.row.up HUP.out)).mono ?_); rintro e w1 ⟨g, c1, R, rfl, hr1, hcan1, hv1, hl1, hb1, hgg⟩; have HB1 := Lib.hid (three (below_undrewN hb1)).2.2.2.2.2.2.2.2.2; have X := three (below_undrewN hb1); have hq1 := X.1; have hq2 := X.2.1; have hq3 := X.2.2.1; have hq4 := X.2.2.2.1; have hq5 := X.2.2.2.2.1; have hq6 := X.2.2.2.2.2.1; have hq7 := X.2.2.2.2.2.2.1; have hq8 := X.2.2.2.2.2.2.2.1; have hq9 := X.2.2.2.2.2.2.2.2.1; clear X hb1)
   | (go_at_call 77; refine (signed_any _ _ _ _ _).mono ?_; rintro e w2 ⟨rfl, hb2⟩; have HB2 := Lib.hid (below_then HB1.out hb2 hq9); have HR2 := Lib.hid (hr1.below hb2); have hs2 := hb2.size; clear hq1 hq2 hq3 hq4 hq5 hq6 hq7 hq8 hr1 hb2; have X := three' HB2.out; have hq1 := X.1; have hq2 := X.2.1; have hq3 := X.2.2.1; have hq4 := X.2.2.2.1; have hq5 := X.2.2.2.2.1; have hq6 := X.2.2.2.2.2.1; have hq7 := X.2.2.2.2.2.2.1; have hq8 := X.2.2.2.2.2.2.2.1; clear X))
 all_goals
  go_wp2
  have hbw : Below w.heap.size w w2 := (below_a3 w _ _ _).trans (Below.less HB2.out (by omega))
  refine bodyPost_ret (v := .agg #[.bool (n && decide (0 < R.length)), .slice (some ⟨g, 0, none⟩) R.length c1]) (by simp [results, Tryz.results66, go_sem, hq5, hq6]) rfl
   ⟨_, _, _, R, rfl, ?_, subZI n hv1 val9_nil, by omega, (hbw.setCell (by simp; omega) _).setCell (by simp; omega) _⟩
  rw [setCell_size, setCell_size]
  refine ⟨(HR2.out.more hs2).box3 HB2.out (fun _ => by simp) (fun _ => by simp) _ _, hcan1, fun hk hR => ?_⟩
  rw [hR] at hk
  simp at hk
def swapW (w : World) (x y x' y' : Value) (nq : Nat) : World :=
 ((((((((w.alloc (.cells #[x, y] 25)).alloc (.cells #[x', y'] 25)).alloc (.cells #[.bool false, .slice none 0 0] 25)).drewN nq).setCell ⟨w.heap.size, 0, none⟩ x').setCell ⟨w.heap.size, 1, none⟩ y').setCell ⟨w.heap.size + 1, 0, none⟩ x).setCell ⟨w.heap.size + 1, 1, none⟩ y)
theorem swapW_below (w : World) (x y x' y' : Value) (nq : Nat) : Below w.heap.size w (swapW w x y x' y' nq) :=
 (((((below_drewN (below_a3 w _ _ _) nq).setCell (by simp) _).setCell (by simp) _).setCell (by simp) _).setCell (by simp) _)
theorem swapW_size (w : World) (x y x' y' : Value) (nq : Nat) : (swapW w x y x' y' nq).heap.size = w.heap.size + 3 := by
 unfold swapW
 rw [setCell_size, setCell_size, setCell_size, setCell_size]
 simp [World.drewN]
theorem cell_set_same {w : World} {b i : Nat} {u v : Value} (h : w.cell? ⟨b, i, none⟩ = some v) : (w.setCell ⟨b, i, none⟩ u).cell? ⟨b, i, none⟩ = some u := by
 unfold World.cell? at h
 dsimp only at h
 unfold World.cell? World.setCell
 dsimp only
 rw [Array.getElem?_modify, if_pos rfl]
 cases hb : w.heap[b]? with
 | none => rw [hb] at h; cases h
 | some o =>
  rw [hb] at h
  cases o with
  | cells c e f =>
   simp only [Option.map_some, Option.isSome_none, Bool.false_eq_true, if_false] at h ⊢
   have hi : i < c.size := by
    rcases Nat.lt_or_ge i c.size with h1 | h1
    ·exact h1
    ·rw [Array.getElem?_eq_none h1] at h; cases h
   simp [hi]
  | _ => cases h
theorem cell_set_ne {w : World} {p q : Addr} {u : Value} (h : p ≠ q) : (w.setCell p u).cell? q = w.cell? q := World.cell?_setCell_other _ _ _ _ h
theorem frozen_set {w : World} {p q : Addr} {u : Value} : (w.setCell p u).frozen? q = w.frozen? q := by simp
theorem swapW_cells (w : World) (x y x' y' : Value) (nq : Nat) :
  (swapW w x y x' y' nq).cell? ⟨w.heap.size, 0, none⟩ = some x' ∧ (swapW w x y x' y' nq).cell? ⟨w.heap.size, 1, none⟩ = some y' ∧
  (swapW w x y x' y' nq).cell? ⟨w.heap.size + 1, 0, none⟩ = some x ∧ (swapW w x y x' y' nq).cell? ⟨w.heap.size + 1, 1, none⟩ = some y ∧
  (swapW w x y x' y' nq).cell? ⟨w.heap.size + 2, 0, none⟩ = some (.bool false) ∧ (swapW w x y x' y' nq).cell? ⟨w.heap.size + 2, 1, none⟩ = some (.slice none 0 0) ∧
  (swapW w x y x' y' nq).frozen? ⟨w.heap.size + 2, 0, none⟩ = false ∧ (swapW w x y x' y' nq).frozen? ⟨w.heap.size + 2, 1, none⟩ = false := by
 have X := three (Below.refl _ (((w.alloc (.cells #[x, y] 25)).alloc (.cells #[x', y'] 25)).alloc (.cells #[.bool false, .slice none 0 0] 25)))
 obtain ⟨h1, h2, h3, h4, h5, h6, h7, h8, _⟩ := X
 have d : ∀ p, ((((w.alloc (.cells #[x, y] 25)).alloc (.cells #[x', y'] 25)).alloc (.cells #[.bool false, .slice none 0 0] 25)).drewN nq).cell? p = (((w.alloc (.cells #[x, y] 25)).alloc (.cells #[x', y'] 25)).alloc (.cells #[.bool false, .slice none 0 0] 25)).cell? p := fun _ => rfl
 have df : ∀ p, ((((w.alloc (.cells #[x, y] 25)).alloc (.cells #[x', y'] 25)).alloc (.cells #[.bool false, .slice none 0 0] 25)).drewN nq).frozen? p = (((w.alloc (.cells #[x, y] 25)).alloc (.cells #[x', y'] 25)).alloc (.cells #[.bool false, .slice none 0 0] 25)).frozen? p := fun _ => rfl
 unfold swapW
 generalize (((w.alloc (.cells #[x, y] 25)).alloc (.cells #[x', y'] 25)).alloc (.cells #[.bool false, .slice none 0 0] 25)) = V at *
 generalize V.drewN nq = U at *
 generalize w.heap.size = g at *
 rw [← d] at h1 h2 h3 h4 h5 h6
 rw [← df] at h7 h8
 have n1 : (⟨g, 0, none⟩ : Addr) ≠ ⟨g, 1, none⟩ := by simp
 have n2 : (⟨g + 1, 0, none⟩ : Addr) ≠ ⟨g + 1, 1, none⟩ := by simp
 have m : ∀ i j : Nat, (⟨g, i, none⟩ : Addr) ≠ ⟨g + 1, j, none⟩ := by simp
 have k1 : ∀ i j : Nat, (⟨g, i, none⟩ : Addr) ≠ ⟨g + 2, j, none⟩ := by simp
 have k2 : ∀ i j : Nat, (⟨g + 1, i, none⟩ : Addr) ≠ ⟨g + 2, j, none⟩ := by simp
 refine ⟨?_, ?_, ?_, ?_, ?_, ?_, ?_, ?_⟩
 ·rw [cell_set_ne (m _ _).symm, cell_set_ne (m _ _).symm, cell_set_ne n1.symm]; exact cell_set_same h1
 ·rw [cell_set_ne (m _ _).symm, cell_set_ne (m _ _).symm]; exact cell_set_same (by rw [cell_set_ne n1]; exact h2)
 ·rw [cell_set_ne n2.symm]; exact cell_set_same (by rw [cell_set_ne (m _ _), cell_set_ne (m _ _)]; exact h3)
 ·exact cell_set_same (by rw [cell_set_ne n2, cell_set_ne (m _ _), cell_set_ne (m _ _)]; exact h4)
 ·rw [cell_set_ne (k2 _ _), cell_set_ne (k2 _ _), cell_set_ne (k1 _ _), cell_set_ne (k1 _ _)]; exact h5
 ·rw [cell_set_ne (k2 _ _), cell_set_ne (k2 _ _), cell_set_ne (k1 _ _), cell_set_ne (k1 _ _)]; exact h6
 ·rw [frozen_set, frozen_set, frozen_set, frozen_set]; exact h7
 ·rw [frozen_set, frozen_set, frozen_set, frozen_set]; exact h8
theorem add_diff_lt (n : Bool) (A A' : Option Addr) (c c' : Nat) (L M : List Nat) (w : World) (hl : L.length ≤ 500000) (hml : M.length ≤ 500000) (hlt : val9 L < val9 M)
  (hL : IntR w w.heap.size n A c L) (hM : IntR w w.heap.size (!n) A' c' M) :
  Calls Tryz.prog 66 #[.agg #[.bool n, .slice A L.length c], .agg #[.bool (!n), .slice A' M.length c']] w fun e w' => ∃ k A c R, e = .returned (.agg #[.bool k, .slice A R.length c]) ∧
   IntR w' w'.heap.size k A c R ∧ zI k R = zI n L + zI (!n) M ∧ R.length ≤ L.length + M.length + 1 ∧ Below w.heap.size w w' := by
 have hM2 := fun W h1 h2 => subt2 A' A c' c M L W (by omega) (canon_len hM.canon hL.canon (by omega)) hM.canon.lim hL.canon.lim (by omega) h1 h2
 have HM2 := Lib.hid hM2
 have hC := fun W h1 h2 => compare_row A A' c c' L M W (by omega) (by omega) h1 h2 hL.canon hM.canon
 rw [cmp_lt hlt] at hC
 have HC := Lib.hid hC
 clear hM2 hC
 generalize hl' : L.length = l at *
 generalize hm' : M.length = l2 at *
 have HLL := Lib.hid hl'
 have HML := Lib.hid hm'
 clear hl' hm' hlt
 have hbb : (n == !n) = false := by cases n <;> rfl
 go_enter Tryz.func66, Tryz.ntmps66
 go_wp2_with fail
 refine (HC.out _ (hL.row.up (below_a3 _ _ _ _)) (hM.row.up (below_a3 _ _ _ _))).mono ?_
 rintro e w9 ⟨rfl, nq, rfl⟩
 go_wp2_with fail
 have Y := swapW_cells w (.bool n) (.slice A l c) (.bool (!n)) (.slice A' l2 c') nq
 have hbS := swapW_below w (.bool n) (.slice A l c) (.bool (!n)) (.slice A' l2 c') nq
 have hsz := swapW_size w (.bool n) (.slice A l c) (.bool (!n)) (.slice A' l2 c') nq
 change Code.wp Tryz.prog _ _ _ (swapW w (.bool n) (.slice A l c) (.bool (!n)) (.slice A' l2 c') nq)
 generalize swapW w (.bool n) (.slice A l c) (.bool (!n)) (.slice A' l2 c') nq = W at *
 have hz1 : w.heap.size < W.drew.heap.size := by show _ < W.heap.size; omega
 have hz2 : w.heap.size + 1 < W.drew.heap.size := by show _ < W.heap.size; omega
 have hz3 : w.heap.size + 2 < W.drew.heap.size := by show _ < W.heap.size; omega
 have HSZ := Lib.hid hsz
 have HUP := Lib.hid (below_drew hbS)
 clear hsz hbS
 have hy1 := Y.1
 have hy2 := Y.2.1
 have hy3 := Y.2.2.1
 have hy4 := Y.2.2.2.1
 have hne1 : ¬ w.heap.size = w.heap.size + 1 + 1 := by omega
 have hne2 : ¬ w.heap.size + 1 + 1 = w.heap.size := by omega
 go_region_held3 (fun w' => w'.cell? ⟨w.heap.size, 0, none⟩ = some (.bool (!n)) ∧ w'.cell? ⟨w.heap.size, 1, none⟩ = some (.slice A' l2 c') ∧
   w'.cell? ⟨w.heap.size + 1, 0, none⟩ = some (.bool n) ∧ w'.cell? ⟨w.heap.size + 1, 1, none⟩ = some (.slice A l c)) (go_keep)
  (first
   | (go_at_call 113; (with_reducible refine (HM2.out _ (hM.row.up HUP.out) (hL.row.up HUP.out)).mono ?_); rintro e w1 ⟨g, c1, R, rfl, hr1, hcan1, hv1, hl1, hb1, hgg⟩; have hs9 := hb1.size; have HB1 := Lib.hid hb1; have hq1 := (hb1.cell (p := ⟨w.heap.size, 0, none⟩) hz1).trans Y.1; have hq2 := (hb1.cell (p := ⟨w.heap.size, 1, none⟩) hz1).trans Y.2.1; have hq3 := (hb1.cell (p := ⟨w.heap.size + 1, 0, none⟩) hz2).trans Y.2.2.1; have hq4 := (hb1.cell (p := ⟨w.heap.size + 1, 1, none⟩) hz2).trans Y.2.2.2.1; clear hb1)
   | (go_at_call 77; refine (signed_any _ _ _ _ _).mono ?_; rintro e w2 ⟨rfl, hb2⟩; have HB2 := Lib.hid (below_then HB1.out hb2 hs9); have HR2 := Lib.hid (hr1.below hb2); have hs2 := hb2.size; clear hq1 hq2 hq3 hq4 hr1 hb2; have hq1 := (HB2.out.cell (p := ⟨w.heap.size, 0, none⟩) hz1).trans Y.1; have hq2 := (HB2.out.cell (p := ⟨w.heap.size, 1, none⟩) hz1).trans Y.2.1; have hq3 := (HB2.out.cell (p := ⟨w.heap.size + 1, 0, none⟩) hz2).trans Y.2.2.1; have hq4 := (HB2.out.cell (p := ⟨w.heap.size + 1, 1, none⟩) hz2).trans Y.2.2.2.1; have hq5 := (HB2.out.cell (p := ⟨w.heap.size + 2, 0, none⟩) hz3).trans Y.2.2.2.2.1; have hq6 := (HB2.out.cell (p := ⟨w.heap.size + 2, 1, none⟩) hz3).trans Y.2.2.2.2.2.1; have hq7 := (HB2.out.frozen (p := ⟨w.heap.size + 2, 0, none⟩) hz3).trans Y.2.2.2.2.2.2.1; have hq8 := (HB2.out.frozen (p := ⟨w.heap.size + 2, 1, none⟩) hz3).trans Y.2.2.2.2.2.2.2))
 all_goals
  go_wp2
  have hbw : Below w.heap.size w w2 := HUP.out.trans (Below.less HB2.out (by omega))
  have hgg2 : w.heap.size + 3 ≤ g := by have h1 := HSZ.out; have h2 : W.heap.size ≤ g := hgg; omega
  refine bodyPost_ret (v := .agg #[.bool ((!n) && decide (0 < R.length)), .slice (some ⟨g, 0, none⟩) R.length c1]) (by simp [results, Tryz.results66, go_sem, hq5, hq6]) rfl
   ⟨_, _, _, R, rfl, ?_, ?_, by omega, (hbw.setCell (by simp; omega) _).setCell (by simp; omega) _⟩
  ·rw [setCell_size, setCell_size]
   refine ⟨((HR2.out.more hs2).apart (by simp; omega) _).apart (by simp; omega) _, hcan1, fun hk hR => ?_⟩
   rw [hR] at hk
   simp at hk
  ·rw [subZI (!n) hv1 val9_nil, Bool.not_not, Int.add_comm]
theorem add_any (n m : Bool) (A A' : Option Addr) (c c' : Nat) (L M : List Nat) (w : World) (hl : L.length ≤ 500000) (hml : M.length ≤ 500000)
  (hL : IntR w w.heap.size n A c L) (hM : IntR w w.heap.size m A' c' M) :
  Calls Tryz.prog 66 #[.agg #[.bool n, .slice A L.length c], .agg #[.bool m, .slice A' M.length c']] w fun e w' => ∃ k A c R, e = .returned (.agg #[.bool k, .slice A R.length c]) ∧
   IntR w' w'.heap.size k A c R ∧ zI k R = zI n L + zI m M ∧ R.length ≤ L.length + M.length + 1 ∧ Below w.heap.size w w' := by
 by_cases h : n = m
 ·subst h
  exact add_same n A A' c c' L M w hl hml hL hM
 ·obtain rfl : m = !n := by cases n <;> cases m <;> first | rfl | exact absurd rfl h
  rcases Nat.lt_or_ge (val9 L) (val9 M) with h1 | h1
  ·exact add_diff_lt n A A' c c' L M w hl hml h1 hL hM
  ·exact add_diff_ge n A A' c c' L M w hl hml h1 hL hM
set_option maxHeartbeats 800000
def lenOf : Value → Nat
 | .slice _ k _ => k
 | _ => 0
theorem rtrim_any (A : Option Addr) (c : Nat) (L : List Nat) (w : World) (B : Nat) (hl : L.length ≤ 4000000) (hR : Row .i64 w B A c L) :
  Calls Tryz.prog 149 #[.slice A L.length c] w fun e w' => e = .returned (.slice A (trimN L L.length) c) ∧ w = w' := by
 have hlc := hR.len
 generalize hn : L.length = n at *
 have HN := Lib.hid hn
 clear hn
 go_enter Tryz.func149, Tryz.ntmps149
 go_wp2
 go_loop [0] (fun v => ∃ k : Nat, k ≤ n ∧ v = .slice A k c ∧ Hid (trimN L k = trimN L n)) lenOf
 case atStart => exact ⟨n, Nat.le_refl _, rfl, rfl⟩
 case round =>
  obtain ⟨k, hk, rfl, ht⟩ := hrel
  rcases Nat.eq_zero_or_pos k with rfl | hpos
  ·have hd : decide ((0 : Int) < ((0 : Nat) : Int)) = false := by simp
   go_wp2
   go_ret
   exact ⟨by rw [← ht.out]; rfl, rfl⟩
  ·obtain ⟨b, o, rfl, hb, hcell⟩ := hR.spot (by rw [HN.out]; omega)
   obtain ⟨m, rfl⟩ : ∃ m, k = m + 1 := ⟨k - 1, by omega⟩
   have h1 : ((0 : Int) < ((m + 1 : Nat) : Int)) := by omega
   have hc := hcell m (by rw [HN.out]; omega)
   clear hcell
   by_cases hz : nth L m = 0
   ·go_wp2
    go_round
    case rel => exact ⟨m, by omega, rfl, by have := ht.out; rw [trimN, if_pos hz] at this; exact this⟩
    case measure => simp [lenOf]
   ·go_wp2
    go_ret
    exact ⟨by have := ht.out; rw [trimN, if_neg hz] at this; rw [← this]; rfl, rfl⟩
theorem rsigned_any (neg : Bool) (A : Option Addr) (c : Nat) (L : List Nat) (w : World) (hl : L.length ≤ 4000000) (hR : Row .i64 w w.heap.size A c L) :
  Calls Tryz.prog 109 #[.bool neg, .slice A L.length c] w fun e w' => e = .returned (.agg #[.bool (neg && decide (0 < trimN L L.length)), .slice A (trimN L L.length) c]) ∧ Below w.heap.size w w' := by
 have hT := fun W h => rtrim_any A c L W w.heap.size hl h
 have htl := trimN_le L L.length
 have HT := Lib.hid hT
 clear hT
 generalize hm : trimN L L.length = m at *
 have HM := Lib.hid hm
 clear hm
 rcases Nat.eq_zero_or_pos m with rfl | hn
 ·have hd : decide ((0 : Int) < ((0 : Nat) : Int)) = false := by simp
  cases neg
  all_goals
   go_enter Tryz.func109, Tryz.ntmps109
   go_wp2_with fail
   refine (HT.out _ (hR.alloc (Nat.le_refl _) _)).mono ?_
   rintro e w1 ⟨rfl, rfl⟩
   go_wp2_with fail
   exact bodyPost_ret (v := .agg #[.bool false, .slice A 0 c]) (by simp [results, Tryz.results109, go_sem]) rfl ⟨rfl, ((Below.refl _ _).alloc (Nat.le_refl _) _)⟩
 ·have hd : decide ((0 : Int) < (m : Int)) = true := by simp; omega
  have hd2 : decide (0 < m) = true := by simp; omega
  rw [hd2]
  clear hd2
  cases neg
  ·go_enter Tryz.func109, Tryz.ntmps109
   go_wp2_with fail
   refine (HT.out _ (hR.alloc (Nat.le_refl _) _)).mono ?_
   rintro e w1 ⟨rfl, rfl⟩
   go_wp2_with fail
   exact bodyPost_ret (v := .agg #[.bool false, .slice A m c]) (by simp [results, Tryz.results109, go_sem]) rfl ⟨rfl, ((Below.refl _ _).alloc (Nat.le_refl _) _)⟩
  ·go_enter Tryz.func109, Tryz.ntmps109
   go_wp2_with fail
   refine (HT.out _ (hR.alloc (Nat.le_refl _) _)).mono ?_
   rintro e w1 ⟨rfl, rfl⟩
   go_wp2_with fail
   exact bodyPost_ret (v := .agg #[.bool true, .slice A m c]) (by simp [results, Tryz.results109, go_sem]) rfl ⟨rfl, ((Below.refl _ _).alloc (Nat.le_refl _) _)⟩
structure RefR (w : World) (B : Nat) (neg : Bool) (A : Option Addr) (c : Nat) (L : List Nat) : Prop where
 row : Row .i64 w B A c L
 lim : ∀ d ∈ L, d < 10000
 top : 0 < L.length → nth L (L.length - 1) ≠ 0
 sgn : neg = true → L ≠ []
theorem RefR.below {w w' : World} {B : Nat} {neg : Bool} {A : Option Addr} {c : Nat} {L : List Nat} (h : RefR w B neg A c L) (hb : Below B w w') : RefR w' B neg A c L := ⟨h.row.below hb, h.lim, h.top, h.sgn⟩
theorem RefR.zero (w : World) (B : Nat) (A : Option Addr) (c : Nat) : RefR w B false A c [] := ⟨Row.nil _ _ _ _ _, fun _ h => absurd h (List.not_mem_nil), fun h => absurd h (Nat.lt_irrefl 0), fun h => absurd h Bool.false_ne_true⟩
def sgnI (neg : Bool) (L : List Nat) : Int := if neg then -1 else if L.length = 0 then 0 else 1
theorem rsign_any (neg : Bool) (A : Option Addr) (c : Nat) (L : List Nat) (w : World) (hs : neg = true → L ≠ []) :
  Calls Tryz.prog 61 #[.agg #[.bool neg, .slice A L.length c]] w fun e w' => e = .returned (.int .i64 (sgnI neg L)) ∧ Below w.heap.size w w' := by
 generalize hn : L.length = n at *
 have hk : sgnI neg L = if neg then -1 else if n = 0 then 0 else 1 := by rw [sgnI, hn]
 rw [hk]
 have hs2 : neg = true → 0 < n := fun h => by rw [← hn]; exact List.length_pos_iff.2 (hs h)
 clear hk hs hn
 rcases Nat.eq_zero_or_pos n with rfl | hpos
 ·cases neg
  ·go_enter Tryz.func61, Tryz.ntmps61
   go_wp2
   go_ret
   exact ⟨rfl, below_alloc_new _⟩
  ·exact absurd (hs2 rfl) (by omega)
 ·have h0 : ((n : Int) == 0) = false := by simp; omega
  have hn0 : ¬ n = 0 := by omega
  cases neg
  ·go_enter Tryz.func61, Tryz.ntmps61
   go_wp2
   go_ret
   exact ⟨rfl, below_alloc_new _⟩
  ·go_enter Tryz.func61, Tryz.ntmps61
   go_wp2
   go_ret
   exact ⟨rfl, below_alloc_new _⟩
theorem sign_any (neg : Bool) (A : Option Addr) (c : Nat) (L : List Nat) (w : World) :
  Calls Tryz.prog 35 #[.agg #[.bool neg, .slice A L.length c]] w fun e w' => e = .returned (.int .i64 (sgnI neg L)) ∧ Below w.heap.size w w' := by
 generalize hn : L.length = n at *
 have hk : sgnI neg L = if neg then -1 else if n = 0 then 0 else 1 := by rw [sgnI, hn]
 rw [hk]
 clear hk hn
 rcases Nat.eq_zero_or_pos n with rfl | hpos
 ·have hd : decide ((0 : Int) < ((0 : Nat) : Int)) = false := by simp
  cases neg
  ·go_enter Tryz.func35, Tryz.ntmps35
   go_wp2
   go_ret
   exact ⟨rfl, below_alloc_new _⟩
  ·go_enter Tryz.func35, Tryz.ntmps35
   go_wp2
   go_ret
   exact ⟨rfl, below_alloc_new _⟩
 ·have h0 : decide ((0 : Int) < (n : Int)) = true := by simp; omega
  have hn0 : ¬ n = 0 := by omega
  cases neg
  ·go_enter Tryz.func35, Tryz.ntmps35
   go_wp2
   go_ret
   exact ⟨rfl, below_alloc_new _⟩
  ·go_enter Tryz.func35, Tryz.ntmps35
   go_wp2
   go_ret
   exact ⟨rfl, below_alloc_new _⟩
open Go.Lib (decDigits)
theorem padk_front (k d : Nat) : padk (k + 1) d = UInt8.ofNat (48 + d / 10 ^ k % 10) :: padk k d := by
 induction k generalizing d with
 | zero => simp [padk]
 | succ k ih =>
  rw [padk, ih (d / 10)]
  have e : d / 10 / 10 ^ k = d / 10 ^ (k + 1) := by rw [Nat.div_div_eq_div_mul, Nat.pow_succ, Nat.mul_comm]
  rw [e, List.cons_append]
  rfl
theorem padk_mod (k d : Nat) : padk k (d % 10 ^ k) = padk k d := by
 induction k generalizing d with
 | zero => rfl
 | succ k ih =>
  rw [padk, padk]
  have e1 : d % 10 ^ (k + 1) / 10 = (d / 10) % 10 ^ k := by
   rw [Nat.pow_succ, Nat.mul_comm, Nat.mod_mul_right_div_self]
  have e2 : d % 10 ^ (k + 1) % 10 = d % 10 := by
   rw [Nat.pow_succ, Nat.mul_comm, Nat.mod_mul_right_mod]
  rw [e1, e2, ih]
def topTxt (d k : Nat) : List UInt8 := if d < 10 ^ k then decDigits d else padk k d
theorem topTxt_step {d k : Nat} (h : 10 ^ k ≤ d) : topTxt d (k + 1) = UInt8.ofNat (48 + d / 10 ^ k % 10) :: topTxt d k := by
 unfold topTxt
 rw [if_neg (by omega : ¬ d < 10 ^ k)]
 split
 ·rename_i h2
  have hp : 0 < 10 ^ k := Nat.pow_pos (by omega)
  have hq : d / 10 ^ k < 10 := by rw [Nat.div_lt_iff_lt_mul hp]; rw [Nat.pow_succ] at h2; omega
  have hq0 : 0 < d / 10 ^ k := Nat.div_pos h hp
  have := dec_pad k (d / 10 ^ k) (d % 10 ^ k) hq0 (Nat.mod_lt _ hp)
  rw [Nat.div_add_mod', padk_mod, dec_small hq] at this
  rw [this, Nat.mod_eq_of_lt hq]
  rfl
 ·exact padk_front k d
theorem topTxt_same {d k : Nat} (h : d < 10 ^ k) : topTxt d (k + 1) = topTxt d k := by
 unfold topTxt
 rw [if_pos h, if_pos (by rw [Nat.pow_succ]; omega)]
theorem topTxt_zero {d : Nat} (h : 0 < d) : topTxt d 0 = [] := by unfold topTxt; rw [if_neg (by simp; omega)]; rfl
theorem wpList_byte_str {P : Program} {w : World} {ops : Array Oper} {rest : List Oper} {o : Oper} {a : Act} {Q : Exit → Act → World → Prop} (hg : o.guard = none) (src dst : TypeId) (x : Operand) (hop : o.op = Op.convert src dst x)
  (e : TypeId) (hs : P.underlying src = some (.slice e)) (he : P.underlying e = some (.int .u8)) (hd : P.underlying dst = some .string)
  (X : Int) (b : UInt8) (hX : X = (b.toNat : Int)) (c : Nat) (hx : a.eval x = .slice (some ⟨w.heap.size, 0, none⟩) 1 c)
  (h : wpList P ops Q rest (a.put o.dst (.string ⟨#[b]⟩)) (w.alloc (.cells #[.int .u8 X] e))) : wpList P ops Q (o :: rest) a (w.alloc (.cells #[.int .u8 X] e)) := by
 refine wpList_plain hg fun K hK => ?_
 have hrun : (convert src dst (.slice (some ⟨w.heap.size, 0, none⟩) 1 c)).run P (w.alloc (.cells #[.int .u8 X] e)) = .ok (.string ⟨#[b]⟩) (w.alloc (.cells #[.int .u8 X] e)) := by
  rw [run_convert_bytes_string _ src dst e _ _ _ hs he hd]
  have hl := run_loadCells_list (P := P) (w := w.alloc (.cells #[.int .u8 X] e)) ⟨w.heap.size, 0, none⟩ [.int .u8 X] (fun j v hj => by
   match j, hj with
   | 0, hj =>
    simp at hj
    subst hj
    unfold World.cell? Addr.add
    rw [if_pos rfl]
    dsimp only
    rw [heap_alloc_new]
    simp)
  rw [run_bytesToString (P := P) (w.alloc (.cells #[.int .u8 X] e)) ⟨w.heap.size, 0, none⟩ 1 c [X] (by simpa using hl)]
  subst hX
  simp [ByteArray.empty, ByteArray.emptyWithCapacity, ByteArray.push]
  rfl
 unfold Oper.wp
 simp [execOp, hop, hx, hrun, Result.andThen]
 exact hK _ _ h
theorem str_cons (b : UInt8) (l : List UInt8) : (⟨#[b]⟩ : ByteArray) ++ ⟨l.toArray⟩ = ⟨(b :: l).toArray⟩ := by
 apply WideShapes.bytes_inj
 simp
def rtx (L : List Nat) (i : Nat) : List UInt8 := if i < L.length then lowPads 4 (L.take i) else decDigits (valB 10000 L)
theorem rtx_low {L : List Nat} {i : Nat} (h : i + 1 < L.length) : rtx L (i + 1) = padk 4 (nth L i) ++ rtx L i := by
 unfold rtx
 rw [if_pos h, if_pos (by omega), List.take_succ_eq_append_getElem (by omega), ← nth_lt (by omega)]
 generalize L.take i = M
 have key : ∀ M : List Nat, lowPads 4 (M ++ [nth L i]) = padk 4 (nth L i) ++ lowPads 4 M := by
  intro M
  induction M with
  | nil => simp [lowPads]
  | cons x r ih => simp only [List.cons_append, lowPads, ih, List.append_assoc]
 exact key M
theorem rtx_top {L : List Nat} {i : Nat} (h : i + 1 = L.length) (hl : ∀ d ∈ L, d < 10000) (ht : nth L i ≠ 0) : rtx L (i + 1) = topTxt (nth L i) 4 ++ rtx L i := by
 unfold rtx
 rw [if_neg (by omega), if_pos (by omega)]
 have hd : nth L i < 10000 := nth_all hl (by omega) i
 have := dec_limbs 4 (L.take i) (nth L i) (by omega) (fun d hd => hl d (List.mem_of_mem_take hd))
 have e2 : L.take i ++ [nth L i] = L := by
  rw [nth_lt (by omega), List.take_append_getElem]
  exact List.take_of_length_le (by omega)
 rw [e2] at this
 rw [show (10000 : Nat) = 10 ^ 4 from rfl, this]
 unfold topTxt
 rw [if_pos (by omega)]
theorem rtx_len {L : List Nat} {i : Nat} (hi : i ≤ L.length) (h0 : L.length ≠ 0) (hl : ∀ d ∈ L, d < 10000) (ht : nth L (L.length - 1) ≠ 0) : (rtx L i).length ≤ 4 * i + 10 := by
 unfold rtx
 split
 ·rw [lowPads_length, List.length_take]; omega
 ·have hii : i = L.length := by omega
  have h1 := dec_limbs 4 (L.take (L.length - 1)) (nth L (L.length - 1)) (by omega) (fun d hd => hl d (List.mem_of_mem_take hd))
  have e2 : L.take (L.length - 1) ++ [nth L (L.length - 1)] = L := by
   rw [nth_lt (by omega), List.take_append_getElem]
   exact List.take_of_length_le (by omega)
  rw [e2] at h1
  rw [show (10000 : Nat) = 10 ^ 4 from rfl, h1, List.length_append, lowPads_length, List.length_take]
  have h2 : nth L (L.length - 1) < 10000 := nth_all hl (by omega) _
  have := dec_len (nth L (L.length - 1)) (by omega)
  omega
theorem sizeList (s : ByteArray) : s.data.toList.length = s.size := by simp
theorem digit_byte (q : Nat) : ∃ b : UInt8, b.toNat = 48 + q % 10 ∧ b = UInt8.ofNat (48 + q % 10) := ⟨_, digit_code q, rfl⟩
theorem div_step (d k : Nat) : d / 10 ^ (k + 1) = d / 10 ^ k / 10 := by rw [Nat.div_div_eq_div_mul, Nat.pow_succ]
set_option maxRecDepth 20000 in
set_option maxHeartbeats 3200000 in
theorem rtext_any (neg : Bool) (A : Option Addr) (c : Nat) (L : List Nat) (w : World) (hl : L.length ≤ 1000000) (hR : RefR w w.heap.size neg A c L) :
  Calls Tryz.prog 44 #[.agg #[.bool neg, .slice A L.length c]] w fun e w' => e = .returned (.string ⟨(decI neg (valB 10000 L)).toArray⟩) ∧ Below w.heap.size w w' := by
 obtain ⟨hrow, hlim, htop, hsgn⟩ := hR
 generalize hn : L.length = n at *
 have HN := Lib.hid hn
 clear hn
 have HS := Lib.hid hsgn
 have HT := Lib.hid htop
 clear hsgn htop
 go_enter Tryz.func44, Tryz.ntmps44
 go_wp2
 go_loopw [3, 4] (fun ov iv wr => ∃ (i : Nat) (O : ByteArray), i ≤ n ∧ iv = .int .i64 i ∧ ov = .string O ∧ Hid (O = ⟨(if n = 0 then [] else rtx L i).toArray⟩) ∧
  Below (w.heap.size + 1) (w.alloc (.cells #[.bool neg, .slice A n c] 33)) wr) (fun _ iv _ => n - (intOf iv).toNat)
 case atStart =>
  refine ⟨0, ⟨#[]⟩, Nat.zero_le _, rfl, rfl, ?_, by have := Below.refl (w.heap.size + 1) (w.alloc (.cells #[.bool neg, .slice A n c] 33)); exact this⟩
  show _ = _
  split
  ·rfl
  ·rw [rtx, if_pos (by rw [HN.out]; omega)]; rfl
 case round =>
  obtain ⟨i, O, hi, rfl, rfl, hO, hbr⟩ := hrel
  have hx1 := (boxed2 hbr).2
  by_cases hlt : i < n
  ·obtain ⟨b, o, rfl, hb, hcell⟩ := hrow.spot (by rw [HN.out]; omega)
   have hm := (hcell.below (Below.trans (below_alloc_new _) (Below.less hbr (Nat.le_succ _))) hb) i (by rw [HN.out]; omega)
   have hd := nth_all hlim (by omega) i
   clear hcell
   generalize hdd : nth L i = d at *
   have HDD := Lib.hid hdd
   clear hdd
   go_wp2
   have ⟨T, hT⟩ : ∃ T, Hid (O = ⟨T.toArray⟩ ∧ T = rtx L i) := ⟨_, by rw [hO.out, if_neg (by omega)], rfl⟩
   have hTl : T.length ≤ 4000010 := by
    rw [hT.out.2]
    have := rtx_len (L := L) (i := i) (by rw [HN.out]; omega) (by rw [HN.out]; omega) hlim (by rw [HN.out]; exact HT.out (by omega))
    omega
   by_cases hlow : i < n - 1
   ·go_loopw [3, 5, 6] (fun ov nv kv wq => ∃ (k : Nat) (O' : ByteArray) (q : Nat), k ≤ 4 ∧ kv = .int .i64 k ∧ ov = .string O' ∧ nv = .int .i64 q ∧ q ≤ 9999 ∧ Hid (O' = ⟨(padk k d ++ T).toArray⟩) ∧ Hid (q = d / 10 ^ k) ∧
     Below (w.heap.size + 1) (w.alloc (.cells #[.bool neg, .slice (some ⟨b, o, none⟩) n c] 33)) wq) (fun _ _ kv _ => 4 - (intOf kv).toNat)
    case atStart => exact ⟨0, O, d, by omega, rfl, rfl, rfl, by omega, by rw [hT.out.1]; rfl, by show _ = _; simp, hbr⟩
    case round =>
     clear hx1 hm
     obtain ⟨k, O', q, hk, rfl, rfl, rfl, hq, hO', hqd, hbq⟩ := hrel
     have hx1 := (boxed2 hbq).2
     by_cases hk4 : k < 4
     ·have hlow' : (i : Int) < (n : Int) - 1 := by omega
      have hsz : O'.size ≤ 5000000 := by
       rw [hO'.out, ← sizeList]
       simp only [List.length_append, padk_length]
       omega
      obtain ⟨bt, hbt, hbt2⟩ := digit_byte q
      have HBT := Lib.hid hbt
      have HBT2 := Lib.hid hbt2
      clear hbt hbt2
      go_wp2_with (refine wpList_byte_str rfl 101 9 (.tmp 37) rfl 5 Tryz.underlying101 Tryz.underlying5 Tryz.underlying9 _ bt ?_ 1 rfl ?_; (rw [HBT.out]; simp))
      go_roundw
      case rel =>
       refine ⟨k + 1, (⟨#[bt]⟩ : ByteArray) ++ O', q / 10, by omega, by go_num, rfl, by simp, by omega, ?_, ?_, ?_⟩
       ·show _ = _
        rw [hO'.out, str_cons, padk_front, HBT2.out, hqd.out]
        rfl
       ·show _ = _
        rw [hqd.out, div_step]
       ·have hs2 : w.heap.size + 1 ≤ wr.heap.size := by have := hbq.size; simpa using this
        exact hbq.alloc hs2 _
      case measure => simp [intOf]; omega
     ·obtain rfl : k = 4 := by omega
      have hd4 : decide (((4 : Nat) : Int) < 4) = false := by decide
      go_wp2
      go_roundw
      case rel =>
       refine ⟨i + 1, O', by omega, by go_num, rfl, ?_, hbq⟩
       show _ = _
       rw [if_neg (by omega), hO'.out, hT.out.2, rtx_low (by rw [HN.out]; omega), HDD.out]
      case measure => simp [intOf]; omega
   ·have hd0 : 0 < d := by
     have h9 := HT.out (by omega)
     have : n - 1 = i := by omega
     rw [this, HDD.out] at h9; omega
    have hlow' : ¬ (i : Int) < (n : Int) - 1 := by omega
    go_loopw [3, 5, 6] (fun ov nv kv wq => ∃ (k : Nat) (O' : ByteArray) (q : Nat), k ≤ 4 ∧ kv = .int .i64 k ∧ ov = .string O' ∧ nv = .int .i64 q ∧ q ≤ 9999 ∧ Hid (O' = ⟨(topTxt d k ++ T).toArray⟩) ∧ Hid (q = d / 10 ^ k) ∧
     Below (w.heap.size + 1) (w.alloc (.cells #[.bool neg, .slice (some ⟨b, o, none⟩) n c] 33)) wq) (fun _ _ kv _ => 4 - (intOf kv).toNat)
    case atStart => exact ⟨0, O, d, by omega, rfl, rfl, rfl, by omega, by rw [hT.out.1, topTxt_zero hd0]; rfl, by show _ = _; simp, hbr⟩
    case round =>
     clear hx1 hm
     obtain ⟨k, O', q, hk, rfl, rfl, rfl, hq, hO', hqd, hbq⟩ := hrel
     have hx1 := (boxed2 hbq).2
     by_cases hk4 : k < 4
     ·have hp10 : 0 < 10 ^ k := Nat.pow_pos (by omega)
      by_cases hbig : 10 ^ k ≤ d
      ·have hq0 : (0 : Int) < (q : Int) := by
        have := Nat.div_pos hbig hp10
        rw [← hqd.out] at this; omega
       have htl : (topTxt d k).length ≤ 20 := by
        unfold topTxt; rw [if_neg (by omega), padk_length]; omega
       have HBIG := Lib.hid hbig
       clear hbig hp10
       have hsz : O'.size ≤ 5000000 := by
        rw [hO'.out, ← sizeList]
        simp only [List.length_append]
        omega
       obtain ⟨bt, hbt, hbt2⟩ := digit_byte q
       have HBT := Lib.hid hbt
       have HBT2 := Lib.hid hbt2
       clear hbt hbt2
       go_wp2_with (refine wpList_byte_str rfl 101 9 (.tmp 37) rfl 5 Tryz.underlying101 Tryz.underlying5 Tryz.underlying9 _ bt ?_ 1 rfl ?_; (rw [HBT.out]; simp))
       go_roundw
       case rel =>
        refine ⟨k + 1, (⟨#[bt]⟩ : ByteArray) ++ O', q / 10, by omega, by go_num, rfl, by simp, by omega, ?_, ?_, ?_⟩
        ·show _ = _
         rw [hO'.out, str_cons, topTxt_step HBIG.out, HBT2.out, hqd.out]
         rfl
        ·show _ = _
         rw [hqd.out, div_step]
        ·have hs2 : w.heap.size + 1 ≤ wr.heap.size := by have := hbq.size; simpa using this
         exact hbq.alloc hs2 _
       case measure => simp [intOf]; omega
      ·have hq0 : ¬ (0 : Int) < (q : Int) := by
        have := hqd.out
        rw [Nat.div_eq_of_lt (by omega)] at this; omega
       have HBIG := Lib.hid hbig
       clear hbig hp10
       go_wp2
       go_roundw
       case rel =>
        refine ⟨k + 1, O', q / 10, by omega, by go_num, rfl, by simp, by omega, ?_, ?_, hbq⟩
        ·show _ = _
         rw [hO'.out, topTxt_same (by have := HBIG.out; omega)]
        ·show _ = _
         rw [hqd.out, div_step]
       case measure => simp [intOf]; omega
     ·obtain rfl : k = 4 := by omega
      have hd4 : decide (((4 : Nat) : Int) < 4) = false := by decide
      go_wp2
      go_roundw
      case rel =>
       refine ⟨i + 1, O', by omega, by go_num, rfl, ?_, hbq⟩
       show _ = _
       rw [if_neg (by omega), hO'.out, hT.out.2, rtx_top (by rw [HN.out]; omega) hlim (by rw [HDD.out]; omega), HDD.out]
      case measure => simp [intOf]; omega
  ·obtain rfl : i = n := by omega
   have hx0 := (boxed2 hbr).1
   have hbw : Below w.heap.size w wr := (below_alloc_new _).trans (Below.less hbr (Nat.le_succ _))
   have HX := Lib.hid hbw
   rcases Nat.eq_zero_or_pos i with rfl | hpos
   ·obtain rfl : L = [] := List.eq_nil_of_length_eq_zero HN.out
    have hne : O.toList.isEmpty = true := by rw [hO.out, if_pos rfl, ByteArray.toList_eq]; rfl
    obtain rfl : neg = false := by cases neg; rfl; exact absurd rfl (HS.out rfl)
    clear hbw hbr
    go_wp2
    go_ret
    exact ⟨by rw [show decI false (valB 10000 []) = [48] from by show [] ++ decDigits 0 = _; rw [dec_small (by omega)]; rfl]; rfl, HX.out⟩
   ·have hOo := hO.out
    have hrl := rtx_len (L := L) (i := i) (by rw [HN.out]; omega) (by rw [HN.out]; omega) hlim (by rw [HN.out]; exact HT.out (by omega))
    rw [if_neg (by omega)] at hOo
    have hrx : rtx L i = decDigits (valB 10000 L) := by rw [rtx, if_neg (by rw [HN.out]; omega)]
    rw [hrx] at hOo hrl
    have hne : O.toList.isEmpty = false := by
     rw [ByteArray.toList_eq, hOo, List.isEmpty_eq_false_iff]; exact dec_ne _
    have hsz : O.size ≤ 5000000 := by rw [hOo, ← sizeList]; simp only []; omega
    have HOO := Lib.hid hOo
    clear hOo hrx hrl hbw hbr
    cases neg
    ·go_wp2
     go_ret
     exact ⟨by rw [HOO.out]; rfl, HX.out⟩
    ·go_wp2
     go_ret
     exact ⟨by rw [HOO.out]; show Ending.returned (.string ((⟨#[45]⟩ : ByteArray) ++ _)) = _; rw [str_cons]; rfl, HX.out⟩
theorem tab_up {w W : World} (h : Tab w.heap.size w) (hb : Below w.heap.size w W) : Tab W.heap.size W := Tab.more (h.on hb) hb.size
theorem IntR.up {w W : World} {n : Bool} {A : Option Addr} {c : Nat} {L : List Nat} (h : IntR w w.heap.size n A c L) (hb : Below w.heap.size w W) : IntR W W.heap.size n A c L := ⟨h.row.up hb, h.canon, h.sgn⟩
theorem RefR.up {w W : World} {n : Bool} {A : Option Addr} {c : Nat} {L : List Nat} (h : RefR w w.heap.size n A c L) (hb : Below w.heap.size w W) : RefR W W.heap.size n A c L := ⟨h.row.up hb, h.lim, h.top, h.sgn⟩
theorem parse_any (s : ByteArray) (w : World) (hs : s.size ≤ 1000000) :
  Calls Tryz.prog 34 #[.string s] w fun e w' => ∃ k A c L, e = .returned (.tuple #[.agg #[.bool k, .slice A L.length c], .int .i64 (errOf s.data.toList)]) ∧ IntR w' w'.heap.size k A c L ∧ L.length ≤ 223 ∧
   Hid (errOf s.data.toList = 0 → k = negOf s.data.toList ∧ val9 L = numOf (restOf s.data.toList)) ∧ Hid (errOf s.data.toList ≠ 0 → k = false ∧ L = []) ∧ Below w.heap.size w w' := by
 unfold errOf
 by_cases hb : badNum s.data.toList = true
 ·rw [if_pos hb]
  refine (parse_bad s w hs hb).mono ?_
  rintro e w' ⟨rfl, hbw⟩
  exact ⟨false, none, 0, [], rfl, IntR.zero _ _ _ _, by simp, fun h => absurd h (by decide), fun _ => ⟨rfl, rfl⟩, hbw⟩
 ·rw [if_neg hb]
  rw [Bool.not_eq_true] at hb
  by_cases hl : 2000 < (restOf s.data.toList).length
  ·rw [if_pos hl]
   refine (parse_long s w hs hb hl).mono ?_
   rintro e w' ⟨rfl, hbw⟩
   exact ⟨false, none, 0, [], rfl, IntR.zero _ _ _ _, by simp, fun h => absurd h (by decide), fun _ => ⟨rfl, rfl⟩, hbw⟩
  ·rw [if_neg hl]
   refine (parse_ok s w hs hb (by omega)).mono ?_
   rintro e w' ⟨A, c, L, rfl, hi, hv, hn, hbw⟩
   exact ⟨_, A, c, L, rfl, hi, hn, fun _ => ⟨rfl, hv⟩, fun h => absurd rfl h, hbw⟩
theorem upa2 {w wk : World} {a b : Obj} (h : Below (w.heap.size + 2) ((w.alloc a).alloc b) wk) : Below w.heap.size w wk := (below_a2 w a b).trans (Below.less h (by omega))
theorem below_atB {B b i : Nat} {W wk : World} (h : Below B W wk) (hb : b < B) : wk.cell? ⟨b, i, none⟩ = W.cell? ⟨b, i, none⟩ := h.cell hb
theorem snoc_rec {P : List UInt8 → Prop} (h0 : P []) (h1 : ∀ i c, P i → P (i ++ [c])) (l : List UInt8) : P l := by
 suffices H : ∀ n (l : List UInt8), l.length = n → P l from H _ l rfl
 intro n
 induction n with
 | zero => intro l hl; rw [List.eq_nil_of_length_eq_zero hl]; exact h0
 | succ n ih =>
  intro l hl
  have hne : l ≠ [] := by rintro rfl; simp at hl
  rw [← List.dropLast_concat_getLast hne]
  exact h1 _ _ (ih _ (by simp [hl]))
theorem numOf_append (a b : List UInt8) : numOf (a ++ b) = numOf a * 10 ^ b.length + numOf b := by
 refine snoc_rec (P := fun b => numOf (a ++ b) = numOf a * 10 ^ b.length + numOf b) (by simp [numOf]) (fun i c ih => ?_) b
 ·rw [← List.append_assoc, numOf_snoc, numOf_snoc, ih, List.length_append, List.length_singleton, Nat.pow_succ, Nat.mul_add, ← Nat.mul_assoc (numOf a), Nat.mul_comm 10 (numOf a * _)]
  omega
theorem numOf_lt {l : List UInt8} (hd : ∀ c ∈ l, isDig c = true) : numOf l < 10 ^ l.length := by
 revert hd
 refine snoc_rec (P := fun l => (∀ c ∈ l, isDig c = true) → numOf l < 10 ^ l.length) (fun _ => by simp [numOf]) (fun i c ih hd => ?_) l
 ·have h1 := ih fun x hx => hd x (by simp [hx])
  have h2 := isDig_iff.1 (hd c (by simp))
  rw [numOf_snoc, List.length_append, List.length_singleton, Nat.pow_succ]
  omega
def seg (D : List UInt8) (a b : Nat) : List UInt8 := (D.take b).drop a
theorem seg_succ {D : List UInt8} {a k : Nat} (ha : a ≤ k) (hk : k < D.length) : numOf (seg D a (k + 1)) = 10 * numOf (seg D a k) + digAt D k := by
 unfold seg
 rw [List.take_succ_eq_append_getElem hk, List.drop_append_of_le_length (by rw [List.length_take]; omega), numOf_snoc]
 simp [digAt, hk]
theorem seg_self (D : List UInt8) (a : Nat) : numOf (seg D a a) = 0 := by
 unfold seg
 rw [List.drop_of_length_le (by rw [List.length_take]; omega)]; rfl
theorem seg_dig {D : List UInt8} (hd : ∀ c ∈ D, isDig c = true) (a b : Nat) : ∀ c ∈ seg D a b, isDig c = true := fun c hc => hd c (List.mem_of_mem_take (List.mem_of_mem_drop hc))
theorem seg_lt {D : List UInt8} (hd : ∀ c ∈ D, isDig c = true) {a b : Nat} (h : b ≤ a + 4) : numOf (seg D a b) < 10000 := by
 have h1 := numOf_lt (seg_dig hd a b)
 have h2 : (seg D a b).length ≤ 4 := by unfold seg; rw [List.length_drop, List.length_take]; omega
 have h3 : (10 : Nat) ^ (seg D a b).length ≤ 10 ^ 4 := Nat.pow_le_pow_right (by omega) h2
 omega
def chunks (D : List UInt8) : Nat → List Nat
 | 0 => []
 | j + 1 => chunks D j ++ [numOf (seg D (D.length - 4 * j - 4) (D.length - 4 * j))]
theorem chunks_len (D : List UInt8) (j : Nat) : (chunks D j).length = j := by
 induction j with
 | zero => rfl
 | succ j ih => simp [chunks, ih]
theorem chunks_lim {D : List UInt8} (hd : ∀ c ∈ D, isDig c = true) (j : Nat) : ∀ d ∈ chunks D j, d < 10000 := by
 induction j with
 | zero => intro d h; cases h
 | succ j ih =>
  intro d h
  rcases List.mem_append.1 h with h | h
  ·exact ih d h
  ·rw [List.mem_singleton] at h; subst h; exact seg_lt hd (by omega)
theorem chunks_val (D : List UInt8) (j : Nat) : numOf D = valB 10000 (chunks D j) + 10000 ^ j * numOf (D.take (D.length - 4 * j)) := by
 induction j with
 | zero => simp [chunks, valB]
 | succ j ih =>
  rw [ih, chunks, valB_append, chunks_len, Nat.pow_succ]
  have h4 : D.length - 4 * (j + 1) = D.length - 4 * j - 4 := by omega
  rw [h4]
  have hnl : D.length - 4 * j ≤ D.length := by omega
  generalize D.length - 4 * j = n at *
  have hs : numOf (D.take n) = numOf (D.take (n - 4)) * 10000 + numOf (seg D (n - 4) n) := by
   have e : D.take n = D.take (n - 4) ++ seg D (n - 4) n := by
    unfold seg
    have := (List.take_append_drop (n - 4) (D.take n)).symm
    rw [List.take_take, Nat.min_eq_left (by omega)] at this
    exact this
   rw [e, numOf_append]
   by_cases hn : 4 ≤ n
   ·have : (seg D (n - 4) n).length = 4 := by unfold seg; rw [List.length_drop, List.length_take]; omega
    rw [this]
   ·have h0 : n - 4 = 0 := by omega
    rw [h0]; simp [numOf]
  rw [hs]
  simp only [valB, Nat.mul_zero, Nat.add_zero, Nat.mul_add]
  rw [Nat.mul_comm (numOf (List.take (n - 4) D)) 10000, ← Nat.mul_assoc]
  omega
theorem size_list (s : ByteArray) : s.data.toList.length = s.size := by simp
theorem neg_cases (s : ByteArray) : (negOf s.data.toList = false ∧ restOf s.data.toList = s.data.toList ∧ (∀ h : 0 < s.size, (s[0]'h).toNat ≠ 45)) ∨
  (negOf s.data.toList = true ∧ restOf s.data.toList = (s.extract 1 s.size).data.toList ∧ ∃ h : 0 < s.size, (s[0]'h).toNat = 45) := by
 have hl := size_list s
 have hg := toList_get s 0
 have he : (s.extract 1 s.size).data.toList = s.data.toList.drop 1 := Lib.extract_to_end s 1
 unfold negOf restOf Lib.trimPrefix
 rcases hs : s.data.toList with _ | ⟨c, r⟩
 ·left
  refine ⟨rfl, rfl, fun h => ?_⟩
  rw [hs] at hl; simp at hl; omega
 ·have h0 : 0 < s.size := by rw [hs] at hl; simp at hl; omega
  have hc : c = s[0] := by rw [← hg h0]; simp [hs]
  by_cases h45 : c = 45
  ·right
   subst h45
   refine ⟨by simp [Lib.hasPrefix], ?_, h0, by rw [← hc]; rfl⟩
   rw [he, hs]
   simp [Lib.hasPrefix]
  ·left
   have hp : Lib.hasPrefix (c :: r) [45] = false := by
    simp only [Lib.hasPrefix, List.isPrefixOf, Bool.and_true]; rw [beq_eq_false_iff_ne]; exact fun h => h45 h.symm
   rw [hp]
   refine ⟨rfl, rfl, fun _ => ?_⟩
   rw [← hc]
   intro e
   exact h45 (by apply UInt8.toNat_inj.1; rw [e]; rfl)
theorem good_facts {l : List UInt8} (h : badNum l = false) : (∀ c ∈ restOf l, isDig c = true) ∧ restOf l ≠ [] ∧ ((restOf l).head? = some 48 → negOf l = false ∧ restOf l = [48]) ∧ (negOf l = true → 0 < numOf (restOf l)) := by
 have hok : okNum (restOf l) = true := by unfold badNum at h; revert h; cases okNum (restOf l) <;> simp
 obtain ⟨h1, h2, h3⟩ := okNum_parts hok
 have h4 : negOf l = true → restOf l ≠ [48] := by
  intro hn e
  unfold badNum at h
  rw [hok, hn, e] at h
  simp at h
 have h5 : negOf l = true → (restOf l).head? ≠ some 48 := by
  intro hn
  rcases h3 with h3 | h3
  ·exact absurd h3 (h4 hn)
  ·exact h3
 refine ⟨h1, h2, fun hh => ?_, fun hn => numOf_pos h1 h2 (h5 hn)⟩
 rcases h3 with h3 | h3
 ·refine ⟨?_, h3⟩
  cases hn : negOf l
  ·rfl
  ·exact absurd h3 (h4 hn)
 ·exact absurd hh h3
theorem head_byte {s : ByteArray} (h : 0 < s.size) : s.data.toList.head? = some (s[0]'h) := by
 have hg := toList_get s 0 h
 rcases hs : s.data.toList with _ | ⟨c, r⟩
 ·have := size_list s; rw [hs] at this; simp at this; omega
 ·rw [← hg]; simp [hs]
theorem byte_dig (D : ByteArray) (hd : ∀ c ∈ D.data.toList, isDig c = true) (i : Nat) (h : i < D.size) : 48 ≤ (D[i]'h).toNat ∧ (D[i]'h).toNat ≤ 57 ∧ (D[i]'h).toNat - 48 = digAt D.data.toList i := by
 have e := toList_get D i h
 have h1 := isDig_iff.1 (hd _ (List.getElem_mem (by simpa using h : i < D.data.toList.length)))
 rw [e] at h1
 refine ⟨h1.1, h1.2, ?_⟩
 simp only [digAt, List.getD_eq_getElem?_getD, List.getElem?_eq_getElem (by simpa using h : i < D.data.toList.length), Option.getD_some]
 rw [e]
theorem bad_of_digits {l : List UInt8} (h : badNum l = true) (hd : ∀ c ∈ restOf l, isDig c = true) (h0 : restOf l ≠ []) (h48 : (restOf l).head? ≠ some 48) : False := by
 have h1 : (restOf l).all isDig = true := List.all_eq_true.2 hd
 have h2 : (restOf l == [48]) = false := by
  rw [beq_eq_false_iff_ne]; intro e; rw [e] at h48; exact h48 rfl
 have h3 : (restOf l).length ≠ 0 := fun e => h0 (List.eq_nil_of_length_eq_zero e)
 have h4 : ((restOf l).head? != some 48) = true := by rw [bne_iff_ne]; exact h48
 unfold badNum okNum at h
 rw [h1, h2, h4] at h
 have h5 : ((restOf l).length != 0) = true := by rw [bne_iff_ne]; exact h3
 rw [h5] at h
 cases hn : negOf l <;> rw [hn] at h <;> exact absurd h (by decide)
theorem all_dig' (D : ByteArray) (h : ∀ j (h2 : j < D.size), isDig (D[j]'h2) = true) : ∀ c ∈ D.data.toList, isDig c = true := List.all_eq_true.1 (all_dig D fun j _ h2 => h j h2)
set_option maxRecDepth 20000 in
set_option maxHeartbeats 1600000 in
theorem rparse_bad (s : ByteArray) (w : World) (hs : s.size ≤ 1000000) (hbad : badNum s.data.toList = true) :
  Calls Tryz.prog 60 #[.string s] w fun e w' => e = .returned (.tuple #[.agg #[.bool false, .slice none 0 0], .int .i64 3]) ∧ Below w.heap.size w w' := by
 rcases neg_cases s with ⟨hn, hr, h0⟩ | ⟨hn, hr, h0, h1⟩
 ·rcases Nat.eq_zero_or_pos s.size with hz | hp
  ·have hd : decide ((0 : Int) < (s.size : Int)) = false := by rw [decide_eq_false_iff_not]; omega
   have he : ((s.size : Int) == 0) = true := by rw [beq_iff_eq]; omega
   clear hz hr hn h0 hbad
   go_enter Tryz.func60, Tryz.ntmps60
   go_wp2
   exact bodyPost_ret (v := .tuple #[.agg #[.bool false, .slice none 0 0], .int .i64 3]) (by simp [results, Tryz.results60, go_sem]) rfl ⟨rfl, below_alloc_new _⟩
  ·have h45 := h0 hp
   have hq : (((s[0]'hp).toNat : Int) == 45) = false := by rw [beq_eq_false_iff_ne]; omega
   have hd : decide ((0 : Int) < (s.size : Int)) = true := by rw [decide_eq_true_iff]; omega
   have he : ((s.size : Int) == 0) = false := by rw [beq_eq_false_iff_ne]; omega
   by_cases h48 : (s[0]'hp).toNat = 48
   ·have hb1 : (s.toList == [48]) = false := by
     rw [ByteArray.toList_eq, beq_eq_false_iff_ne]; intro e; rw [e] at hbad; revert hbad; decide
    have hb2 : (((s[0]'hp).toNat : Int) == 48) = true := by rw [beq_iff_eq]; omega
    clear h48 h45 hr hn h0 hbad
    go_enter Tryz.func60, Tryz.ntmps60
    go_wp2
    exact bodyPost_ret (v := .tuple #[.agg #[.bool false, .slice none 0 0], .int .i64 3]) (by simp [results, Tryz.results60, go_sem]) rfl ⟨rfl, below_alloc_new _⟩
   ·have hb2 : (((s[0]'hp).toNat : Int) == 48) = false := by rw [beq_eq_false_iff_ne]; omega
    have HBAD : Hid ((∀ c ∈ s.data.toList, isDig c = true) → False) := fun hdg =>
     bad_of_digits hbad (by rw [hr]; exact hdg) (by rw [hr]; intro e; have := size_list s; rw [e] at this; simp at this; omega)
      (by rw [hr, head_byte hp]; intro e; apply h48; have := congrArg (fun (o : Option UInt8) => (o.getD 0).toNat) e; exact this)
    have HSZ : Hid (s.size = s.size) := rfl
    clear h48 h45 hr hn h0 hbad
    go_enter Tryz.func60, Tryz.ntmps60
    go_wp2
    go_loop [5] (fun v => ∃ k : Nat, k ≤ s.size ∧ v = .int .i64 k ∧ Hid (∀ j, j < k → ∀ (h2 : j < s.size), isDig (s[j]'h2) = true)) (fun v => s.size - (intOf v).toNat)
    case atStart => exact ⟨0, Nat.zero_le _, rfl, fun j h => absurd h (by omega)⟩
    case round =>
     obtain ⟨k, hk, rfl, hall⟩ := hrel
     by_cases hlz : k < s.size
     ·have hlt : k < s.size := hlz
      by_cases hdg : isDig (s[k]'hlt) = true
      ·obtain ⟨b1, b2⟩ := isDig_iff.1 hdg
       have hdq : decide ((((s[k]'hlt).toNat : Nat) : Int) < 48) = false := by rw [decide_eq_false_iff_not]; omega
       have HDG := Lib.hid hdg
       clear hdg
       go_wp2
       go_round
       case rel => exact ⟨k + 1, by omega, by go_num, fun j hj h2 => by
        rcases Nat.lt_succ_iff_lt_or_eq.1 hj with h3 | rfl
        ·exact hall.out j h3 h2
        ·exact HDG.out⟩
       case measure => simp [intOf]; omega
      ·by_cases hl48 : (s[k]'hlt).toNat < 48
       ·have hdq : decide ((((s[k]'hlt).toNat : Nat) : Int) < 48) = true := by rw [decide_eq_true_iff]; omega
        clear hdg
        go_wp2
        exact bodyPost_ret (v := .tuple #[.agg #[.bool false, .slice none 0 0], .int .i64 3]) (by simp [results, Tryz.results60, go_sem]) rfl ⟨rfl, below_alloc_new _⟩
       ·have hdq : decide ((((s[k]'hlt).toNat : Nat) : Int) < 48) = false := by rw [decide_eq_false_iff_not]; omega
        have h57 : ¬ (s[k]'hlt).toNat ≤ 57 := fun h => hdg (isDig_iff.2 ⟨by omega, h⟩)
        clear hdg
        go_wp2
        exact bodyPost_ret (v := .tuple #[.agg #[.bool false, .slice none 0 0], .int .i64 3]) (by simp [results, Tryz.results60, go_sem]) rfl ⟨rfl, below_alloc_new _⟩
     ·exact absurd (HBAD.out (all_dig' s fun j h2 => hall.out j (by have := HSZ.out; omega) h2)) id
 ·have hes : (s.extract 1 s.size).size = s.size - 1 := by
   rw [← size_list, Lib.extract_to_end, List.length_drop, size_list]
  have hq : (((s[0]'h0).toNat : Int) == 45) = true := by rw [beq_iff_eq]; omega
  have hd : decide ((0 : Int) < (s.size : Int)) = true := by rw [decide_eq_true_iff]; omega
  rcases Nat.eq_zero_or_pos (s.size - 1) with hz | hp1
  ·have he : (((s.size - 1 : Nat) : Int) == 0) = true := by rw [beq_iff_eq]; omega
   clear hz hr hn h1 hbad hes
   go_enter Tryz.func60, Tryz.ntmps60
   go_wp2
   exact bodyPost_ret (v := .tuple #[.agg #[.bool false, .slice none 0 0], .int .i64 3]) (by simp [results, Tryz.results60, go_sem]) rfl ⟨rfl, below_alloc_new _⟩
  ·have he : (((s.size - 1 : Nat) : Int) == 0) = false := by rw [beq_eq_false_iff_ne]; omega
   have hps : 0 < (s.extract 1 s.size).size := by omega
   by_cases h48 : ((s.extract 1 s.size)[0]'hps).toNat = 48
   ·have hb1 : (s.toList == [48]) = false := by
     rw [ByteArray.toList_eq, beq_eq_false_iff_ne]; intro e
     have := size_list s; rw [e] at this; simp at this; omega
    have hb2 : ((((s.extract 1 s.size)[0]'hps).toNat : Int) == 48) = true := by rw [beq_iff_eq]; omega
    clear h48 h1 hr hn hbad hes
    go_enter Tryz.func60, Tryz.ntmps60
    go_wp2
    exact bodyPost_ret (v := .tuple #[.agg #[.bool false, .slice none 0 0], .int .i64 3]) (by simp [results, Tryz.results60, go_sem]) rfl ⟨rfl, below_alloc_new _⟩
   ·have hb2 : ((((s.extract 1 s.size)[0]'hps).toNat : Int) == 48) = false := by rw [beq_eq_false_iff_ne]; omega
    have HBAD : Hid ((∀ c ∈ (s.extract 1 s.size).data.toList, isDig c = true) → False) := fun hdg =>
     bad_of_digits hbad (by rw [hr]; exact hdg) (by rw [hr]; intro e; have := size_list (s.extract 1 s.size); rw [e] at this; simp at this; omega)
      (by rw [hr, head_byte hps]; intro e; apply h48; have := congrArg (fun (o : Option UInt8) => (o.getD 0).toNat) e; exact this)
    have HSZ : Hid ((s.extract 1 s.size).size = s.size - 1) := hes
    clear h48 h1 hr hn hbad hes
    go_enter Tryz.func60, Tryz.ntmps60
    go_wp2
    go_loop [5] (fun v => ∃ k : Nat, k ≤ s.size - 1 ∧ v = .int .i64 k ∧ Hid (∀ j, j < k → ∀ (h2 : j < (s.extract 1 s.size).size), isDig ((s.extract 1 s.size)[j]'h2) = true)) (fun v => (s.size - 1) - (intOf v).toNat)
    case atStart => exact ⟨0, Nat.zero_le _, rfl, fun j h => absurd h (by omega)⟩
    case round =>
     obtain ⟨k, hk, rfl, hall⟩ := hrel
     by_cases hlz : k < s.size - 1
     ·have hlt : k < (s.extract 1 s.size).size := (by rw [HSZ.out]; exact hlz)
      by_cases hdg : isDig ((s.extract 1 s.size)[k]'hlt) = true
      ·obtain ⟨b1, b2⟩ := isDig_iff.1 hdg
       have hdq : decide (((((s.extract 1 s.size)[k]'hlt).toNat : Nat) : Int) < 48) = false := by rw [decide_eq_false_iff_not]; omega
       have HDG := Lib.hid hdg
       clear hdg
       go_wp2
       go_round
       case rel => exact ⟨k + 1, by omega, by go_num, fun j hj h2 => by
        rcases Nat.lt_succ_iff_lt_or_eq.1 hj with h3 | rfl
        ·exact hall.out j h3 h2
        ·exact HDG.out⟩
       case measure => simp [intOf]; omega
      ·by_cases hl48 : ((s.extract 1 s.size)[k]'hlt).toNat < 48
       ·have hdq : decide (((((s.extract 1 s.size)[k]'hlt).toNat : Nat) : Int) < 48) = true := by rw [decide_eq_true_iff]; omega
        clear hdg
        go_wp2
        exact bodyPost_ret (v := .tuple #[.agg #[.bool false, .slice none 0 0], .int .i64 3]) (by simp [results, Tryz.results60, go_sem]) rfl ⟨rfl, below_alloc_new _⟩
       ·have hdq : decide (((((s.extract 1 s.size)[k]'hlt).toNat : Nat) : Int) < 48) = false := by rw [decide_eq_false_iff_not]; omega
        have h57 : ¬ ((s.extract 1 s.size)[k]'hlt).toNat ≤ 57 := fun h => hdg (isDig_iff.2 ⟨by omega, h⟩)
        clear hdg
        go_wp2
        exact bodyPost_ret (v := .tuple #[.agg #[.bool false, .slice none 0 0], .int .i64 3]) (by simp [results, Tryz.results60, go_sem]) rfl ⟨rfl, below_alloc_new _⟩
     ·exact absurd (HBAD.out (all_dig' (s.extract 1 s.size) fun j h2 => hall.out j (by have := HSZ.out; omega) h2)) id
set_option maxRecDepth 20000 in
set_option maxHeartbeats 1600000 in
theorem rparse_long (s : ByteArray) (w : World) (hs : s.size ≤ 1000000) (hbad : badNum s.data.toList = false) (hlong : 2000 < (restOf s.data.toList).length) :
    Calls Tryz.prog 60 #[.string s] w fun e w' => e = .returned (.tuple #[.agg #[.bool false, .slice none 0 0], .int .i64 6]) ∧ Below w.heap.size w w' := by
  obtain ⟨hdig, hne, hhead, _⟩ := good_facts hbad
  have HV := hlong
  clear hlong hbad
  rcases neg_cases s with ⟨hn, hr, h0⟩ | ⟨hn, hr, h0, h1⟩
  · have hp : 0 < s.size := by
      have := List.length_pos_iff.2 hne; rw [hr] at this; simpa using this
    have h45 := h0 hp
    have hq : (((s[0]'hp).toNat : Int) == 45) = false := by rw [beq_eq_false_iff_ne]; omega
    have hd : decide ((0 : Int) < (s.size : Int)) = true := by rw [decide_eq_true_iff]; omega
    have he : ((s.size : Int) == 0) = false := by rw [beq_eq_false_iff_ne]; omega
    have hsl := size_list s
    rw [hr] at hdig hhead HV
    rw [hn] at *
    have hby := byte_dig s hdig
    have HB := Lib.hid hby
    have HDIG := Lib.hid hdig
    have hDs : s.size ≤ s.size := Nat.le_refl _
    have hlt0 : decide ((s.size : Int) < (s.size : Int)) = false := by simp
    rw [size_list] at HV
    clear h45 h0 hby
    by_cases h48 : (s[0]'hp).toNat = 48
    · have hs48 : s.data.toList = [48] := by
        have := (hhead (by rw [head_byte hp]; congr 1; apply UInt8.toNat_inj.1; rw [h48]; rfl)).2
        exact this
      have hb1 : (s.toList == [48]) = true := by rw [ByteArray.toList_eq, hs48]; rfl
      have hb2 : (((s[0]'hp).toNat : Int) == 48) = true := by rw [beq_iff_eq]; omega
      clear hs48 h48 hr hn hdig hhead hne hsl
      go_enter Tryz.func60, Tryz.ntmps60
      go_wp2
      go_loop [5] (fun v => ∃ k : Nat, k ≤ s.size ∧ v = .int .i64 k) (fun v => s.size - (intOf v).toNat)
      case atStart => exact ⟨0, Nat.zero_le _, rfl⟩
      case round =>
        obtain ⟨k, hk, rfl⟩ := hrel
        by_cases hlz : k < s.size
        · have hlt : k < s.size := hlz
          obtain ⟨b1, b2, _⟩ := HB.out k hlt
          have hdq : decide ((((s[k]'hlt).toNat : Nat) : Int) < 48) = false := by rw [decide_eq_false_iff_not]; omega
          go_wp2
          go_round
          case rel => exact ⟨k + 1, by omega, by go_num⟩
          case measure => simp [intOf]; omega
        · obtain rfl : k = s.size := by omega
          go_wp2
          refine bodyPost_ret (v := .tuple #[.agg #[.bool false, .slice none 0 0], .int .i64 6]) (by simp [results, Tryz.results60, go_sem]) rfl ⟨rfl, ?_⟩
          exact below_alloc_new _
    · have hb2 : (((s[0]'hp).toNat : Int) == 48) = false := by rw [beq_eq_false_iff_ne]; omega
      clear h48 hr hn hdig hhead hne hsl
      go_enter Tryz.func60, Tryz.ntmps60
      go_wp2
      go_loop [5] (fun v => ∃ k : Nat, k ≤ s.size ∧ v = .int .i64 k) (fun v => s.size - (intOf v).toNat)
      case atStart => exact ⟨0, Nat.zero_le _, rfl⟩
      case round =>
        obtain ⟨k, hk, rfl⟩ := hrel
        by_cases hlz : k < s.size
        · have hlt : k < s.size := hlz
          obtain ⟨b1, b2, _⟩ := HB.out k hlt
          have hdq : decide ((((s[k]'hlt).toNat : Nat) : Int) < 48) = false := by rw [decide_eq_false_iff_not]; omega
          go_wp2
          go_round
          case rel => exact ⟨k + 1, by omega, by go_num⟩
          case measure => simp [intOf]; omega
        · obtain rfl : k = s.size := by omega
          go_wp2
          refine bodyPost_ret (v := .tuple #[.agg #[.bool false, .slice none 0 0], .int .i64 6]) (by simp [results, Tryz.results60, go_sem]) rfl ⟨rfl, ?_⟩
          exact below_alloc_new _
  · have hes : (s.extract 1 s.size).size = s.size - 1 := by
      rw [← size_list, Lib.extract_to_end, List.length_drop, size_list]
    have hps : 0 < (s.extract 1 s.size).size := by
      have := List.length_pos_iff.2 hne; rw [hr] at this; simpa using this
    have hq : (((s[0]'h0).toNat : Int) == 45) = true := by rw [beq_iff_eq]; omega
    have hd : decide ((0 : Int) < (s.size : Int)) = true := by rw [decide_eq_true_iff]; omega
    have hp1 : 0 < s.size - 1 := by omega
    have he : (((s.size - 1 : Nat) : Int) == 0) = false := by rw [beq_eq_false_iff_ne]; omega
    have hb2 : ((((s.extract 1 s.size)[0]'hps).toNat : Int) == 48) = false := by
      rw [beq_eq_false_iff_ne]
      intro e
      have := (hhead (by rw [hr, head_byte hps]; congr 1; apply UInt8.toNat_inj.1; have : ((s.extract 1 s.size)[0]'hps).toNat = 48 := by omega
                         rw [this]; rfl)).1
      rw [this] at hn; cases hn
    rw [hr] at hdig HV
    rw [hn] at *
    have hby := byte_dig (s.extract 1 s.size) hdig
    have HB := Lib.hid hby
    have HDIG := Lib.hid hdig
    have HES := Lib.hid hes
    rw [size_list, hes] at HV
    have hlt0 : decide (((s.size - 1 : Nat) : Int) < (s.size : Int)) = true := by rw [decide_eq_true_iff]; omega
    clear h1 hby hr hn hdig hhead hne hes
    go_enter Tryz.func60, Tryz.ntmps60
    go_wp2
    go_loop [5] (fun v => ∃ k : Nat, k ≤ (s.size - 1) ∧ v = .int .i64 k) (fun v => (s.size - 1) - (intOf v).toNat)
    case atStart => exact ⟨0, Nat.zero_le _, rfl⟩
    case round =>
      obtain ⟨k, hk, rfl⟩ := hrel
      by_cases hlz : k < (s.size - 1)
      · have hlt : k < (s.extract 1 s.size).size := (by rw [HES.out]; exact hlz)
        obtain ⟨b1, b2, _⟩ := HB.out k hlt
        have hdq : decide (((((s.extract 1 s.size)[k]'hlt).toNat : Nat) : Int) < 48) = false := by rw [decide_eq_false_iff_not]; omega
        go_wp2
        go_round
        case rel => exact ⟨k + 1, by omega, by go_num⟩
        case measure => simp [intOf]; omega
      · obtain rfl : k = (s.size - 1) := by omega
        go_wp2
        refine bodyPost_ret (v := .tuple #[.agg #[.bool false, .slice none 0 0], .int .i64 6]) (by simp [results, Tryz.results60, go_sem]) rfl ⟨rfl, ?_⟩
        exact below_alloc_new _
theorem info3 : (Tryz.prog.info? 3).map (fun i => (i.zero, i.size, i.bytes)) = some (some (.int .i64 0), 1, 8) := by kernel_rfl
set_option maxRecDepth 20000 in
set_option maxHeartbeats 3200000 in
theorem rparse_ok_plain (s : ByteArray) (w : World) (hn : negOf s.data.toList = false) (hr : restOf s.data.toList = s.data.toList) (h0 : ∀ h : 0 < s.size, (s[0]'h).toNat ≠ 45) (hbad : badNum s.data.toList = false) (hlong : (restOf s.data.toList).length ≤ 2000) :
  Calls Tryz.prog 60 #[.string s] w fun e w' => ∃ A c L, e = .returned (.tuple #[.agg #[.bool (negOf s.data.toList), .slice A L.length c], .int .i64 0]) ∧ RefR w' w'.heap.size (negOf s.data.toList) A c L ∧
   valB 10000 L = numOf (restOf s.data.toList) ∧ L.length ≤ 500 ∧ Below w.heap.size w w' := by
 obtain ⟨i0, hi, hz0, hz1, hz2⟩ := info_parts info3
 obtain ⟨hdig, hne, hhead, hnum⟩ := good_facts hbad
 have HV := hlong
 clear hlong hbad
 have hp : 0 < s.size := by
  have := List.length_pos_iff.2 hne; rw [hr] at this; simpa using this
 have h45 := h0 hp
 have hq : (((s[0]'hp).toNat : Int) == 45) = false := by rw [beq_eq_false_iff_ne]; omega
 have hd : decide ((0 : Int) < (s.size : Int)) = true := by rw [decide_eq_true_iff]; omega
 have he : ((s.size : Int) == 0) = false := by rw [beq_eq_false_iff_ne]; omega
 have hsl := size_list s
 rw [hr] at hdig hhead HV
 rw [hn] at *
 have hby := byte_dig s hdig
 have HB := Lib.hid hby
 have HDIG := Lib.hid hdig
 have hDs : s.size ≤ s.size := Nat.le_refl _
 have hlt0 : decide ((s.size : Int) < (s.size : Int)) = false := by simp
 rw [size_list] at HV
 rw [hr]
 clear h45 h0 hby
 by_cases h48 : (s[0]'hp).toNat = 48
 ·have hs48 : s.data.toList = [48] := by
   have := (hhead (by rw [head_byte hp]; congr 1; apply UInt8.toNat_inj.1; rw [h48]; rfl)).2
   exact this
  have hb1 : (s.toList == [48]) = true := by rw [ByteArray.toList_eq, hs48]; rfl
  have hb2 : (((s[0]'hp).toNat : Int) == 48) = true := by rw [beq_iff_eq]; omega
  clear hs48 h48 hr hn hdig hhead hne hsl
  go_enter Tryz.func60, Tryz.ntmps60
  go_wp2
  go_loop [5] (fun v => ∃ k : Nat, k ≤ s.size ∧ v = .int .i64 k) (fun v => s.size - (intOf v).toNat)
  case atStart => exact ⟨0, Nat.zero_le _, rfl⟩
  case round =>
   obtain ⟨k, hk, rfl⟩ := hrel
   by_cases hlz : k < s.size
   ·have hlt : k < s.size := hlz
    obtain ⟨b1, b2, _⟩ := HB.out k hlt
    have hdq : decide ((((s[k]'hlt).toNat : Nat) : Int) < 48) = false := by rw [decide_eq_false_iff_not]; omega
    go_wp2
    go_round
    case rel => exact ⟨k + 1, by omega, by go_num⟩
    case measure => simp [intOf]; omega
   ·obtain rfl : k = s.size := by omega
    go_wp2
    go_loopw [6, 7] (fun lv ev wr => ∃ (j : Nat) (x : Int), j ≤ (s.size + 3) / 4 ∧ ev = .int .i64 x ∧ Hid (x = (s.size : Int) - 4 * (j : Int)) ∧ Own .i64 3 wr (w.heap.size + 1) lv (chunks s.data.toList j) ∧
     Below (w.heap.size + 1) (w.alloc (.cells #[.bool false, .slice none 0 0] 33)) wr) (fun _ ev _ => (intOf ev + 3).toNat)
    case atStart => exact ⟨0, _, Nat.zero_le _, rfl, by show _ = _; omega, Own.nil _ _ _ _, by have := Below.refl (w.heap.size + 1) (w.alloc (.cells #[.bool false, .slice none 0 0] 33)); exact this⟩
    case round =>
     obtain ⟨j, x, hj, rfl, hx, ho, hbr⟩ := hrel
     have hsr : w.heap.size + 1 ≤ wr.heap.size := by have := hbr.size; simpa using this
     have HO := Lib.hid ho
     clear ho
     by_cases hpos : 0 < x
     ·obtain ⟨e, rfl⟩ : ∃ e : Nat, x = (e : Int) := ⟨x.toNat, by omega⟩
      have hme : e ≤ s.size := by have := hx.out; omega
      go_wp2
      have hsl2 := seg_lt HDIG.out (a := e - 4) (b := e) (by omega)
      go_loop [8, 9] (fun nv iv => ∃ k : Nat, e - 4 ≤ k ∧ k ≤ e ∧ iv = .int .i64 k ∧ nv = .int .i64 (numOf (seg s.data.toList (e - 4) k))) (fun _ iv => e - (intOf iv).toNat)
      case atStart => exact ⟨e - 4, Nat.le_refl _, by omega, by congr 1; omega, by rw [seg_self]; rfl⟩
      case round =>
       obtain ⟨k, hk1, hk2, rfl, rfl⟩ := hrel
       have hsk := seg_lt HDIG.out (a := e - 4) (b := k) (by omega)
       by_cases hke : k < e
       ·have hlz : k < s.size := by omega
        have hlt : k < s.size := hlz
        obtain ⟨b1, b2, b3⟩ := HB.out k hlt
        have hsg := @seg_succ s.data.toList _ _ hk1 (by rw [size_list]; exact hlt)
        rw [← b3] at hsg
        have HSG := Lib.hid hsg
        clear b3 hsg
        generalize hgg : numOf (seg s.data.toList (e - 4) k) = q at *
        have HGG := Lib.hid hgg
        clear hgg
        go_wp2
        go_round
        case rel => exact ⟨k + 1, by omega, by omega, by go_num, by rw [HSG.out]; congr 1; omega⟩
        case measure => simp [intOf]; omega
       ·obtain rfl : k = e := by omega
        clear hsk
        have hlen : (chunks s.data.toList j).length ≤ 100000000 := by rw [chunks_len]; omega
        have HLEN := Lib.hid hlen
        generalize hgg : numOf (seg s.data.toList (k - 4) k) = q at *
        have HGG := Lib.hid hgg
        clear hgg hlen
        go_wp2_with (first
         | (at_builtin; refine wpList_append_num wr rfl (.tmp 77) (.tmp 79) 31 rfl .i64 (w.heap.size + 1) 3 i0 8 Tryz.underlying31 hi hz0 hz1 hz2 (by omega) u6 _ (by rfl) HO.out _ q ?_ 1 rfl HLEN.out ?_ ?_; (rfl); (exact hsr); intro v2 w2 ho2 hb2)
         | fail)
        go_roundw
        case rel =>
         have hxx := hx.out
         have hc : chunks s.data.toList (j + 1) = chunks s.data.toList j ++ [q] := by
          rw [chunks, size_list]
          have e1 : s.size - 4 * j = k := (by omega)
          rw [e1, HGG.out]
         exact ⟨j + 1, _, by omega, rfl, by show _ = _; omega, by rw [hc]; exact ho2.out, hbr.trans hb2⟩
        case measure => simp [intOf]; omega
     ·have hjj : s.size ≤ 4 * j := by have := hx.out; omega
      obtain ⟨A, c, hv, hrow⟩ := HO.out.row
      subst hv
      have hcl := chunks_len s.data.toList j
      have hcv := chunks_val s.data.toList j
      have hclim := chunks_lim HDIG.out j
      rw [size_list] at hcv
      have hz0' : s.size - 4 * j = 0 := (by omega)
      rw [hz0'] at hcv
      have hcv2 : numOf s.data.toList = valB 10000 (chunks s.data.toList j) := by rw [hcv]; simp [numOf]
      clear hcv hz0'
      have hsgn := fun W h => rsigned_any false A c (chunks s.data.toList j) W (by rw [hcl]; omega) h
      have HSGN := Lib.hid hsgn
      have HCL := Lib.hid hcl
      have HCV := Lib.hid hcv2
      clear hsgn hcl hcv2
      go_wp2_with fail
      refine (HSGN.out wr hrow).mono ?_
      rintro e w4 ⟨rfl, hb4⟩
      have hby : Below (w.heap.size + 1) (w.alloc (Obj.cells #[Value.bool false, Value.slice none 0 0] 33)) w4 := hbr.trans (Below.less hb4 hsr)
      have htv := trimN_val 10000 (chunks s.data.toList j) _ (Nat.le_refl _)
      have htt := trimN_top (chunks s.data.toList j) (chunks s.data.toList j).length
      have htl := trimN_le (chunks s.data.toList j) (chunks s.data.toList j).length
      rw [List.take_of_length_le (Nat.le_refl _), ← HCV.out] at htv
      generalize htm : trimN (chunks s.data.toList j) (chunks s.data.toList j).length = m at *
      have hcl' := HCL.out
      have hrow4 : RefR w4 wr.heap.size false A c ((chunks s.data.toList j).take m) := RefR.below ⟨hrow.take m, fun d hd => hclim d (List.mem_of_mem_take hd), fun h => by
       have el : ((chunks s.data.toList j).take m).length = m := by rw [List.length_take]; omega
       rw [el] at h ⊢; rw [nth_take (by omega)]; exact htt h, fun h => absurd h Bool.false_ne_true⟩ hb4
      have el : ((chunks s.data.toList j).take m).length = m := by rw [List.length_take]; omega
      have hy0 := (boxed2 hby).1
      have hy1 := (boxed2 hby).2
      have gy0 := boxedF hby 0
      have gy1 := boxedF hby 1
      have hbw4 : Below w.heap.size w w4 := (below_alloc_new _).trans (Below.less hby (Nat.le_succ _))
      have hw34 := hb4.size
      have HBY := Lib.hid hby
      have HTV := Lib.hid htv
      have HEL := Lib.hid el
      clear hby hb4 htv el htm htt
      go_wp2_with fail
      refine bodyPost_ret (v := .tuple #[.agg #[.bool false, .slice A m c], .int .i64 0]) (by simp [results, Tryz.results60, go_sem, hy0, hy1]) rfl ⟨A, c, (chunks s.data.toList j).take m, by rw [HEL.out], ?_, HTV.out, by rw [HEL.out]; omega, (hbw4.setCell (by simp) _).setCell (by simp) _⟩
      rw [setCell_size, setCell_size]
      exact ⟨(hrow4.row.more hw34).box HBY.out (fun _ => by simp) (fun _ => by simp) _ _, hrow4.lim, hrow4.top, hrow4.sgn⟩
 ·have hb2 : (((s[0]'hp).toNat : Int) == 48) = false := by rw [beq_eq_false_iff_ne]; omega
  clear h48 hr hn hdig hhead hne hsl
  go_enter Tryz.func60, Tryz.ntmps60
  go_wp2
  go_loop [5] (fun v => ∃ k : Nat, k ≤ s.size ∧ v = .int .i64 k) (fun v => s.size - (intOf v).toNat)
  case atStart => exact ⟨0, Nat.zero_le _, rfl⟩
  case round =>
   obtain ⟨k, hk, rfl⟩ := hrel
   by_cases hlz : k < s.size
   ·have hlt : k < s.size := hlz
    obtain ⟨b1, b2, _⟩ := HB.out k hlt
    have hdq : decide ((((s[k]'hlt).toNat : Nat) : Int) < 48) = false := by rw [decide_eq_false_iff_not]; omega
    go_wp2
    go_round
    case rel => exact ⟨k + 1, by omega, by go_num⟩
    case measure => simp [intOf]; omega
   ·obtain rfl : k = s.size := by omega
    go_wp2
    go_loopw [6, 7] (fun lv ev wr => ∃ (j : Nat) (x : Int), j ≤ (s.size + 3) / 4 ∧ ev = .int .i64 x ∧ Hid (x = (s.size : Int) - 4 * (j : Int)) ∧ Own .i64 3 wr (w.heap.size + 1) lv (chunks s.data.toList j) ∧
     Below (w.heap.size + 1) (w.alloc (.cells #[.bool false, .slice none 0 0] 33)) wr) (fun _ ev _ => (intOf ev + 3).toNat)
    case atStart => exact ⟨0, _, Nat.zero_le _, rfl, by show _ = _; omega, Own.nil _ _ _ _, by have := Below.refl (w.heap.size + 1) (w.alloc (.cells #[.bool false, .slice none 0 0] 33)); exact this⟩
    case round =>
     obtain ⟨j, x, hj, rfl, hx, ho, hbr⟩ := hrel
     have hsr : w.heap.size + 1 ≤ wr.heap.size := by have := hbr.size; simpa using this
     have HO := Lib.hid ho
     clear ho
     by_cases hpos : 0 < x
     ·obtain ⟨e, rfl⟩ : ∃ e : Nat, x = (e : Int) := ⟨x.toNat, by omega⟩
      have hme : e ≤ s.size := by have := hx.out; omega
      go_wp2
      have hsl2 := seg_lt HDIG.out (a := e - 4) (b := e) (by omega)
      go_loop [8, 9] (fun nv iv => ∃ k : Nat, e - 4 ≤ k ∧ k ≤ e ∧ iv = .int .i64 k ∧ nv = .int .i64 (numOf (seg s.data.toList (e - 4) k))) (fun _ iv => e - (intOf iv).toNat)
      case atStart => exact ⟨e - 4, Nat.le_refl _, by omega, by congr 1; omega, by rw [seg_self]; rfl⟩
      case round =>
       obtain ⟨k, hk1, hk2, rfl, rfl⟩ := hrel
       have hsk := seg_lt HDIG.out (a := e - 4) (b := k) (by omega)
       by_cases hke : k < e
       ·have hlz : k < s.size := by omega
        have hlt : k < s.size := hlz
        obtain ⟨b1, b2, b3⟩ := HB.out k hlt
        have hsg := @seg_succ s.data.toList _ _ hk1 (by rw [size_list]; exact hlt)
        rw [← b3] at hsg
        have HSG := Lib.hid hsg
        clear b3 hsg
        generalize hgg : numOf (seg s.data.toList (e - 4) k) = q at *
        have HGG := Lib.hid hgg
        clear hgg
        go_wp2
        go_round
        case rel => exact ⟨k + 1, by omega, by omega, by go_num, by rw [HSG.out]; congr 1; omega⟩
        case measure => simp [intOf]; omega
       ·obtain rfl : k = e := by omega
        clear hsk
        have hlen : (chunks s.data.toList j).length ≤ 100000000 := by rw [chunks_len]; omega
        have HLEN := Lib.hid hlen
        generalize hgg : numOf (seg s.data.toList (k - 4) k) = q at *
        have HGG := Lib.hid hgg
        clear hgg hlen
        go_wp2_with (first
         | (at_builtin; refine wpList_append_num wr rfl (.tmp 77) (.tmp 79) 31 rfl .i64 (w.heap.size + 1) 3 i0 8 Tryz.underlying31 hi hz0 hz1 hz2 (by omega) u6 _ (by rfl) HO.out _ q ?_ 1 rfl HLEN.out ?_ ?_; (rfl); (exact hsr); intro v2 w2 ho2 hb2)
         | fail)
        go_roundw
        case rel =>
         have hxx := hx.out
         have hc : chunks s.data.toList (j + 1) = chunks s.data.toList j ++ [q] := by
          rw [chunks, size_list]
          have e1 : s.size - 4 * j = k := (by omega)
          rw [e1, HGG.out]
         exact ⟨j + 1, _, by omega, rfl, by show _ = _; omega, by rw [hc]; exact ho2.out, hbr.trans hb2⟩
        case measure => simp [intOf]; omega
     ·have hjj : s.size ≤ 4 * j := by have := hx.out; omega
      obtain ⟨A, c, hv, hrow⟩ := HO.out.row
      subst hv
      have hcl := chunks_len s.data.toList j
      have hcv := chunks_val s.data.toList j
      have hclim := chunks_lim HDIG.out j
      rw [size_list] at hcv
      have hz0' : s.size - 4 * j = 0 := (by omega)
      rw [hz0'] at hcv
      have hcv2 : numOf s.data.toList = valB 10000 (chunks s.data.toList j) := by rw [hcv]; simp [numOf]
      clear hcv hz0'
      have hsgn := fun W h => rsigned_any false A c (chunks s.data.toList j) W (by rw [hcl]; omega) h
      have HSGN := Lib.hid hsgn
      have HCL := Lib.hid hcl
      have HCV := Lib.hid hcv2
      clear hsgn hcl hcv2
      go_wp2_with fail
      refine (HSGN.out wr hrow).mono ?_
      rintro e w4 ⟨rfl, hb4⟩
      have hby : Below (w.heap.size + 1) (w.alloc (Obj.cells #[Value.bool false, Value.slice none 0 0] 33)) w4 := hbr.trans (Below.less hb4 hsr)
      have htv := trimN_val 10000 (chunks s.data.toList j) _ (Nat.le_refl _)
      have htt := trimN_top (chunks s.data.toList j) (chunks s.data.toList j).length
      have htl := trimN_le (chunks s.data.toList j) (chunks s.data.toList j).length
      rw [List.take_of_length_le (Nat.le_refl _), ← HCV.out] at htv
      generalize htm : trimN (chunks s.data.toList j) (chunks s.data.toList j).length = m at *
      have hcl' := HCL.out
      have hrow4 : RefR w4 wr.heap.size false A c ((chunks s.data.toList j).take m) := RefR.below ⟨hrow.take m, fun d hd => hclim d (List.mem_of_mem_take hd), fun h => by
       have el : ((chunks s.data.toList j).take m).length = m := by rw [List.length_take]; omega
       rw [el] at h ⊢; rw [nth_take (by omega)]; exact htt h, fun h => absurd h Bool.false_ne_true⟩ hb4
      have el : ((chunks s.data.toList j).take m).length = m := by rw [List.length_take]; omega
      have hy0 := (boxed2 hby).1
      have hy1 := (boxed2 hby).2
      have gy0 := boxedF hby 0
      have gy1 := boxedF hby 1
      have hbw4 : Below w.heap.size w w4 := (below_alloc_new _).trans (Below.less hby (Nat.le_succ _))
      have hw34 := hb4.size
      have HBY := Lib.hid hby
      have HTV := Lib.hid htv
      have HEL := Lib.hid el
      clear hby hb4 htv el htm htt
      go_wp2_with fail
      refine bodyPost_ret (v := .tuple #[.agg #[.bool false, .slice A m c], .int .i64 0]) (by simp [results, Tryz.results60, go_sem, hy0, hy1]) rfl ⟨A, c, (chunks s.data.toList j).take m, by rw [HEL.out], ?_, HTV.out, by rw [HEL.out]; omega, (hbw4.setCell (by simp) _).setCell (by simp) _⟩
      rw [setCell_size, setCell_size]
      exact ⟨(hrow4.row.more hw34).box HBY.out (fun _ => by simp) (fun _ => by simp) _ _, hrow4.lim, hrow4.top, hrow4.sgn⟩
set_option maxRecDepth 20000 in
set_option maxHeartbeats 3200000 in
theorem rparse_ok_neg (s : ByteArray) (w : World) (hn : negOf s.data.toList = true) (hr : restOf s.data.toList = (s.extract 1 s.size).data.toList) (h0 : 0 < s.size) (h1 : (s[0]'h0).toNat = 45) (hbad : badNum s.data.toList = false) (hlong : (restOf s.data.toList).length ≤ 2000) :
    Calls Tryz.prog 60 #[.string s] w fun e w' => ∃ A c L, e = .returned (.tuple #[.agg #[.bool (negOf s.data.toList), .slice A L.length c], .int .i64 0]) ∧ RefR w' w'.heap.size (negOf s.data.toList) A c L ∧
      valB 10000 L = numOf (restOf s.data.toList) ∧ L.length ≤ 500 ∧ Below w.heap.size w w' := by
  obtain ⟨i0, hi, hz0, hz1, hz2⟩ := info_parts info3
  obtain ⟨hdig, hne, hhead, hnum⟩ := good_facts hbad
  have HV := hlong
  clear hlong hbad
  obtain ⟨D, hD⟩ : ∃ D, D = s.extract 1 s.size := ⟨_, rfl⟩
  obtain ⟨D, hD⟩ : ∃ D, D = s.extract 1 s.size := ⟨_, rfl⟩
  obtain ⟨D, hD⟩ : ∃ D, D = s.extract 1 s.size := ⟨_, rfl⟩
  obtain ⟨D, hD⟩ : ∃ D, D = s.extract 1 s.size := ⟨_, rfl⟩
  have hes : D.size = s.size - 1 := by
    rw [hD, ← size_list, Lib.extract_to_end, List.length_drop, size_list]
  have hr' : restOf s.data.toList = D.data.toList := by rw [hr, hD]
  have hps : 0 < D.size := by
    have := List.length_pos_iff.2 hne; rw [hr'] at this; simpa using this
  have hq : (((s[0]'h0).toNat : Int) == 45) = true := by rw [beq_iff_eq]; omega
  have hd : decide ((0 : Int) < (s.size : Int)) = true := by rw [decide_eq_true_iff]; omega
  have he : ((D.size : Int) == 0) = false := by rw [beq_eq_false_iff_ne]; omega
  have hb2 : (((D[0]'hps).toNat : Int) == 48) = false := by
    rw [beq_eq_false_iff_ne]
    intro e
    have := (hhead (by rw [hr', head_byte hps]; congr 1; apply UInt8.toNat_inj.1; have : (D[0]'hps).toNat = 48 := by omega
                       rw [this]; rfl)).1
    rw [this] at hn; cases hn
  rw [hr'] at hdig HV hnum
  rw [hn] at *
  have hby := byte_dig D hdig
  have HB := Lib.hid hby
  have HDIG := Lib.hid hdig
  have HES := Lib.hid hes
  rw [size_list] at HV
  have HNUM := Lib.hid (hnum (by first | exact hn | rfl))
  clear hnum
  rw [hr']
  have hlt0 : decide ((D.size : Int) < (s.size : Int)) = true := by rw [decide_eq_true_iff]; omega
  have hlt1 : D.size < s.size := by omega
  have hs1 : 1 ≤ s.size := h0
  have hs2 : s.size ≤ 2001 := by omega
  have HD := Lib.hid hD
  clear h1 hby hr hr' hn hdig hhead hne hes hD
  go_enter Tryz.func60, Tryz.ntmps60
  go_upto_region 3 with fail
  go_cut [4] from 19 to 20 (fun v wx => v = .string D ∧ w.alloc (.cells #[.bool false, .slice none 0 0] 33) = wx)
  case first =>
    go_wp2
    go_meet
    exact ⟨by rw [HD.out], rfl⟩
  case rest =>
  obtain ⟨rfl, rfl⟩ := hcut
  go_wp2
  go_loop [5] (fun v => ∃ k : Nat, k ≤ D.size ∧ v = .int .i64 k) (fun v => D.size - (intOf v).toNat)
  case atStart => exact ⟨0, Nat.zero_le _, rfl⟩
  case round =>
    obtain ⟨k, hk, rfl⟩ := hrel
    by_cases hlz : k < D.size
    · have hlt : k < D.size := hlz
      obtain ⟨b1, b2, _⟩ := HB.out k hlt
      have hdq : decide ((((D[k]'hlt).toNat : Nat) : Int) < 48) = false := by rw [decide_eq_false_iff_not]; omega
      go_wp2
      go_round
      case rel => exact ⟨k + 1, by omega, by go_num⟩
      case measure => simp [intOf]; omega
    · obtain rfl : k = D.size := by omega
      go_wp2
      go_loopw [6, 7] (fun lv ev wr => ∃ (j : Nat) (x : Int), j ≤ (D.size + 3) / 4 ∧ ev = .int .i64 x ∧ Hid (x = (D.size : Int) - 4 * (j : Int)) ∧ Own .i64 3 wr (w.heap.size + 1) lv (chunks D.data.toList j) ∧
        Below (w.heap.size + 1) (w.alloc (.cells #[.bool false, .slice none 0 0] 33)) wr) (fun _ ev _ => (intOf ev + 3).toNat)
      case atStart => exact ⟨0, _, Nat.zero_le _, rfl, by show _ = _; omega, Own.nil _ _ _ _, by have := Below.refl (w.heap.size + 1) (w.alloc (.cells #[.bool false, .slice none 0 0] 33)); exact this⟩
      case round =>
        obtain ⟨j, x, hj, rfl, hx, ho, hbr⟩ := hrel
        have hsr : w.heap.size + 1 ≤ wr.heap.size := by have := hbr.size; simpa using this
        have HO := Lib.hid ho
        clear ho
        by_cases hpos : 0 < x
        · obtain ⟨e, rfl⟩ : ∃ e : Nat, x = (e : Int) := ⟨x.toNat, by omega⟩
          have hme : e ≤ D.size := by have := hx.out; omega
          go_wp2
          have hsl2 := seg_lt HDIG.out (a := e - 4) (b := e) (by omega)
          go_loop [8, 9] (fun nv iv => ∃ k : Nat, e - 4 ≤ k ∧ k ≤ e ∧ iv = .int .i64 k ∧ nv = .int .i64 (numOf (seg D.data.toList (e - 4) k))) (fun _ iv => e - (intOf iv).toNat)
          case atStart => exact ⟨e - 4, Nat.le_refl _, by omega, by congr 1; omega, by rw [seg_self]; rfl⟩
          case round =>
            obtain ⟨k, hk1, hk2, rfl, rfl⟩ := hrel
            have hsk := seg_lt HDIG.out (a := e - 4) (b := k) (by omega)
            by_cases hke : k < e
            · have hlz : k < D.size := by omega
              have hlt : k < D.size := hlz
              obtain ⟨b1, b2, b3⟩ := HB.out k hlt
              have hsg := @seg_succ D.data.toList _ _ hk1 (by rw [size_list]; exact hlt)
              rw [← b3] at hsg
              have HSG := Lib.hid hsg
              clear b3 hsg
              generalize hgg : numOf (seg D.data.toList (e - 4) k) = q at *
              have HGG := Lib.hid hgg
              clear hgg
              go_wp2
              go_round
              case rel => exact ⟨k + 1, by omega, by omega, by go_num, by rw [HSG.out]; congr 1; omega⟩
              case measure => simp [intOf]; omega
            · obtain rfl : k = e := by omega
              clear hsk
              have hlen : (chunks D.data.toList j).length ≤ 100000000 := by rw [chunks_len]; omega
              have HLEN := Lib.hid hlen
              generalize hgg : numOf (seg D.data.toList (k - 4) k) = q at *
              have HGG := Lib.hid hgg
              clear hgg hlen
              go_wp2_with (first
                | (at_builtin; refine wpList_append_num wr rfl (.tmp 77) (.tmp 79) 31 rfl .i64 (w.heap.size + 1) 3 i0 8 Tryz.underlying31 hi hz0 hz1 hz2 (by omega) u6 _ (by rfl) HO.out _ q ?_ 1 rfl HLEN.out ?_ ?_; (rfl); (exact hsr); intro v2 w2 ho2 hb2)
                | fail)
              go_roundw
              case rel =>
                have hxx := hx.out
                have hc : chunks D.data.toList (j + 1) = chunks D.data.toList j ++ [q] := by
                  rw [chunks, size_list]
                  have e1 : D.size - 4 * j = k := (by omega)
                  rw [e1, HGG.out]
                exact ⟨j + 1, _, by omega, rfl, by show _ = _; omega, by rw [hc]; exact ho2.out, hbr.trans hb2⟩
              case measure => simp [intOf]; omega
        · have hjj : D.size ≤ 4 * j := by have := hx.out; omega
          obtain ⟨A, c, hv, hrow⟩ := HO.out.row
          subst hv
          have hcl := chunks_len D.data.toList j
          have hcv := chunks_val D.data.toList j
          have hclim := chunks_lim HDIG.out j
          rw [size_list] at hcv
          have hz0' : D.size - 4 * j = 0 := (by omega)
          rw [hz0'] at hcv
          have hcv2 : numOf D.data.toList = valB 10000 (chunks D.data.toList j) := by rw [hcv]; simp [numOf]
          clear hcv hz0'
          have hsgn := fun W h => rsigned_any true A c (chunks D.data.toList j) W (by rw [hcl]; omega) h
          have HSGN := Lib.hid hsgn
          have HCL := Lib.hid hcl
          have HCV := Lib.hid hcv2
          clear hsgn hcl hcv2
          go_wp2_with fail
          refine (HSGN.out wr hrow).mono ?_
          rintro e w4 ⟨rfl, hb4⟩
          have hby : Below (w.heap.size + 1) (w.alloc (Obj.cells #[Value.bool false, Value.slice none 0 0] 33)) w4 := hbr.trans (Below.less hb4 hsr)
          have htv := trimN_val 10000 (chunks D.data.toList j) _ (Nat.le_refl _)
          have htt := trimN_top (chunks D.data.toList j) (chunks D.data.toList j).length
          have htl := trimN_le (chunks D.data.toList j) (chunks D.data.toList j).length
          rw [List.take_of_length_le (Nat.le_refl _), ← HCV.out] at htv
          generalize htm : trimN (chunks D.data.toList j) (chunks D.data.toList j).length = m at *
          have hcl' := HCL.out
          have hmp : 0 < m := by
            rcases Nat.eq_zero_or_pos m with h | h
            · rw [h] at htv; simp [valB] at htv; have := HNUM.out; omega
            · exact h
          have hrow4 : RefR w4 wr.heap.size true A c ((chunks D.data.toList j).take m) := RefR.below ⟨hrow.take m, fun d hd => hclim d (List.mem_of_mem_take hd), fun h => by
            have el : ((chunks D.data.toList j).take m).length = m := by rw [List.length_take]; omega
            rw [el] at h ⊢; rw [nth_take (by omega)]; exact htt h, fun _ h => by have h9 := congrArg List.length h; rw [List.length_take, Nat.min_eq_left (by omega)] at h9; have h8 : m = 0 := h9; omega⟩ hb4
          have el : ((chunks D.data.toList j).take m).length = m := by rw [List.length_take]; omega
          have hd0 : (true && decide (0 < m)) = true := by simpa using hmp
          rw [hd0]
          clear hd0
          have hy0 := (boxed2 hby).1
          have hy1 := (boxed2 hby).2
          have gy0 := boxedF hby 0
          have gy1 := boxedF hby 1
          have hbw4 : Below w.heap.size w w4 := (below_alloc_new _).trans (Below.less hby (Nat.le_succ _))
          have hw34 := hb4.size
          have HBY := Lib.hid hby
          have HTV := Lib.hid htv
          have HEL := Lib.hid el
          clear hby hb4 htv el htm htt
          go_wp2_with fail
          refine bodyPost_ret (v := .tuple #[.agg #[.bool true, .slice A m c], .int .i64 0]) (by simp [results, Tryz.results60, go_sem, hy0, hy1]) rfl ⟨A, c, (chunks D.data.toList j).take m, by rw [HEL.out], ?_, HTV.out, by rw [HEL.out]; omega, (hbw4.setCell (by simp) _).setCell (by simp) _⟩
          rw [setCell_size, setCell_size]
          exact ⟨(hrow4.row.more hw34).box HBY.out (fun _ => by simp) (fun _ => by simp) _ _, hrow4.lim, hrow4.top, hrow4.sgn⟩
theorem rparse_any (s : ByteArray) (w : World) (hs : s.size ≤ 1000000) :
  Calls Tryz.prog 60 #[.string s] w fun e w' => ∃ k A c L, e = .returned (.tuple #[.agg #[.bool k, .slice A L.length c], .int .i64 (errOf s.data.toList)]) ∧ RefR w' w'.heap.size k A c L ∧ L.length ≤ 500 ∧
   Hid (errOf s.data.toList = 0 → k = negOf s.data.toList ∧ valB 10000 L = numOf (restOf s.data.toList)) ∧ Hid (errOf s.data.toList ≠ 0 → k = false ∧ L = []) ∧ Below w.heap.size w w' := by
 unfold errOf
 by_cases hb : badNum s.data.toList = true
 ·rw [if_pos hb]
  refine (rparse_bad s w hs hb).mono ?_
  rintro e w' ⟨rfl, hbw⟩
  exact ⟨false, none, 0, [], rfl, RefR.zero _ _ _ _, by simp, fun h => absurd h (by decide), fun _ => ⟨rfl, rfl⟩, hbw⟩
 ·rw [if_neg hb]
  rw [Bool.not_eq_true] at hb
  by_cases hl : 2000 < (restOf s.data.toList).length
  ·rw [if_pos hl]
   refine (rparse_long s w hs hb hl).mono ?_
   rintro e w' ⟨rfl, hbw⟩
   exact ⟨false, none, 0, [], rfl, RefR.zero _ _ _ _, by simp, fun h => absurd h (by decide), fun _ => ⟨rfl, rfl⟩, hbw⟩
  ·rw [if_neg hl]
   have hc : Calls Tryz.prog 60 #[.string s] w fun e w' => ∃ A c L, e = .returned (.tuple #[.agg #[.bool (negOf s.data.toList), .slice A L.length c], .int .i64 0]) ∧ RefR w' w'.heap.size (negOf s.data.toList) A c L ∧
     valB 10000 L = numOf (restOf s.data.toList) ∧ L.length ≤ 500 ∧ Below w.heap.size w w' := by
    rcases neg_cases s with ⟨h1, h2, h3⟩ | ⟨h1, h2, h3, h4⟩
    ·exact rparse_ok_plain s w h1 h2 h3 hb (by omega)
    ·exact rparse_ok_neg s w h1 h2 h3 h4 hb (by omega)
   refine hc.mono ?_
   rintro e w' ⟨A, c, L, rfl, hi, hv, hn, hbw⟩
   exact ⟨_, A, c, L, rfl, hi, hn, fun _ => ⟨rfl, hv⟩, fun h => absurd rfl h, hbw⟩
theorem errOf_good {l : List UInt8} (h : errOf l = 0) : badNum l = false := by
 unfold errOf at h
 split at h
 ·cases h
 ·rename_i h1; simpa using h1
theorem up4 {w wk : World} {o : Obj} (h : Below (w.heap.size + 1) (w.alloc o) wk) : Below w.heap.size w wk := (below_alloc_new _).trans (Below.less h (Nat.le_succ _))
theorem below_sz {w wk : World} {o : Obj} (h : Below (w.heap.size + 1) (w.alloc o) wk) : w.heap.size + 1 ≤ wk.heap.size := by have := h.size; simpa using this
theorem ref_pos {w : World} {B : Nat} {n : Bool} {A : Option Addr} {c : Nat} {M : List Nat} (h : RefR w B n A c M) (h0 : 0 < M.length) : valB 10000 M ≠ 0 := by
 have h1 := valB_take_succ 10000 M (M.length - 1) (by omega)
 rw [show M.length - 1 + 1 = M.length by omega, List.take_of_length_le (Nat.le_refl _)] at h1
 have h2 := h.top h0
 have h3 : 10000 ^ (M.length - 1) * 1 ≤ 10000 ^ (M.length - 1) * nth M (M.length - 1) := Nat.mul_le_mul_left _ (by omega)
 have h4 : 0 < 10000 ^ (M.length - 1) := Nat.pow_pos (by omega)
 omega
structure Box (w : World) (b : Nat) (x y : Value) : Prop where
 c0 : w.cell? ⟨b, 0, none⟩ = some x
 c1 : w.cell? ⟨b, 1, none⟩ = some y
 hi : ∀ i, w.cell? ⟨b, i + 2, none⟩ = none
 f0 : w.frozen? ⟨b, 0, none⟩ = false
 f1 : w.frozen? ⟨b, 1, none⟩ = false
def setPair (w : World) (b : Nat) (u v : Value) : World := (w.setCell ⟨b, 0, none⟩ u).setCell ⟨b, 1, none⟩ v
section
variable {w w' : World} {b b' B : Nat} {x y u v : Value}
theorem Box.below (h : Box w b x y) (hb : Below B w w') (hB : b < B) : Box w' b x y :=
 ⟨(hb.cell (by exact hB)).trans h.c0, (hb.cell (by exact hB)).trans h.c1, fun i => (hb.cell (by exact hB)).trans (h.hi i), (hb.frozen (by exact hB)).trans h.f0, (hb.frozen (by exact hB)).trans h.f1⟩
theorem Box.store (h : Box w b x y) (u v : Value) : Box (setPair w b u v) b u v := by
 have n1 : (⟨b, 1, none⟩ : Addr) ≠ ⟨b, 0, none⟩ := by simp
 refine ⟨?_, ?_, fun i => ?_, ?_, ?_⟩
 ·unfold setPair; rw [World.cell?_setCell_other _ _ _ _ n1]; exact World.cell?_setCell_same _ _ _ h.c0
 ·unfold setPair; exact World.cell?_setCell_same _ _ _ (by rw [World.cell?_setCell_other _ _ _ _ n1.symm]; exact h.c1)
 ·unfold setPair; rw [World.cell?_setCell_other _ _ _ _ (by simp), World.cell?_setCell_other _ _ _ _ (by simp)]; exact h.hi i
 ·unfold setPair; simp [h.f0]
 ·unfold setPair; simp [h.f1]
theorem Box.other (h : Box w b x y) (hne : b' ≠ b) (u v : Value) : Box (setPair w b' u v) b x y := by
 have n : ∀ i j : Nat, (⟨b', i, none⟩ : Addr) ≠ ⟨b, j, none⟩ := fun i j e => hne (congrArg Addr.block e)
 refine ⟨?_, ?_, fun i => ?_, ?_, ?_⟩
 ·unfold setPair; rw [World.cell?_setCell_other _ _ _ _ (n _ _), World.cell?_setCell_other _ _ _ _ (n _ _)]; exact h.c0
 ·unfold setPair; rw [World.cell?_setCell_other _ _ _ _ (n _ _), World.cell?_setCell_other _ _ _ _ (n _ _)]; exact h.c1
 ·unfold setPair; rw [World.cell?_setCell_other _ _ _ _ (n _ _), World.cell?_setCell_other _ _ _ _ (n _ _)]; exact h.hi i
 ·unfold setPair; simp [h.f0]
 ·unfold setPair; simp [h.f1]
theorem Box.new (w : World) (x y : Value) (t : TypeId) : Box (w.alloc (.cells #[x, y] t)) w.heap.size x y := by
 have hh := heap_alloc_new w (.cells #[x, y] t)
 refine ⟨?_, ?_, fun i => ?_, ?_, ?_⟩
 ·unfold World.cell?; dsimp only; rw [hh]; rfl
 ·unfold World.cell?; dsimp only; rw [hh]; rfl
 ·unfold World.cell?; dsimp only; rw [hh]; simp
 ·unfold World.frozen?; dsimp only; rw [hh]; simp
 ·unfold World.frozen?; dsimp only; rw [hh]; simp
theorem Box.row {k : IntKind} {A : Option Addr} {c : Nat} {L : List Nat} (hbx : Box w b x y) (h : Row k w B A c L) (hx : ∀ n, x ≠ .int k n) (hy : ∀ n, y ≠ .int k n) (u v : Value) : Row k (setPair w b u v) B A c L := by
 refine ⟨h.len, fun hp => ?_⟩
 obtain ⟨b', o, e, hbB, hc⟩ := h.spot hp
 have hne : b ≠ b' := by
  rintro rfl
  have h0 := hc 0 hp
  match o, h0 with
  | 0, h0 => rw [hbx.c0] at h0; exact hx _ (Option.some.inj h0)
  | 1, h0 => rw [hbx.c1] at h0; exact hy _ (Option.some.inj h0)
  | o + 2, h0 => rw [Nat.add_zero, hbx.hi o] at h0; cases h0
 refine ⟨b', o, e, hbB, hc.keep fun j => ?_⟩
 unfold setPair
 rw [World.cell?_setCell_other _ _ _ _ (fun e => hne (congrArg Addr.block e)), World.cell?_setCell_other _ _ _ _ (fun e => hne (congrArg Addr.block e))]
theorem setPair_size (w : World) (b : Nat) (u v : Value) : (setPair w b u v).heap.size = w.heap.size := by unfold setPair; rw [setCell_size, setCell_size]
theorem below_setPair {a : World} (h : Below B a w) (hB : B ≤ b) (u v : Value) : Below B a (setPair w b u v) := (h.setCell (by exact hB) _).setCell (by exact hB) _
end
theorem four_boxes (w : World) (x0 y0 x1 y1 x2 y2 x3 y3 : Value) (t0 t1 t2 t3 : TypeId) :
  let W := (((w.alloc (.cells #[x0, y0] t0)).alloc (.cells #[x1, y1] t1)).alloc (.cells #[x2, y2] t2)).alloc (.cells #[x3, y3] t3)
  Box W w.heap.size x0 y0 ∧ Box W (w.heap.size + 1) x1 y1 ∧ Box W (w.heap.size + 1 + 1) x2 y2 ∧ Box W (w.heap.size + 1 + 1 + 1) x3 y3 ∧ W.heap.size = w.heap.size + 4 ∧ Below w.heap.size w W := by
 intro W
 have s1 : (w.alloc (.cells #[x0, y0] t0)).heap.size = w.heap.size + 1 := by simp
 have s2 : ((w.alloc (.cells #[x0, y0] t0)).alloc (.cells #[x1, y1] t1)).heap.size = w.heap.size + 1 + 1 := by simp
 have s3 : (((w.alloc (.cells #[x0, y0] t0)).alloc (.cells #[x1, y1] t1)).alloc (.cells #[x2, y2] t2)).heap.size = w.heap.size + 1 + 1 + 1 := by simp
 have b0 := Box.new w x0 y0 t0
 have b1 := Box.new (w.alloc (.cells #[x0, y0] t0)) x1 y1 t1
 have b2 := Box.new ((w.alloc (.cells #[x0, y0] t0)).alloc (.cells #[x1, y1] t1)) x2 y2 t2
 have b3 := Box.new (((w.alloc (.cells #[x0, y0] t0)).alloc (.cells #[x1, y1] t1)).alloc (.cells #[x2, y2] t2)) x3 y3 t3
 have a1 := below_alloc_new (w := w.alloc (.cells #[x0, y0] t0)) (.cells #[x1, y1] t1)
 have a2 := below_alloc_new (w := (w.alloc (.cells #[x0, y0] t0)).alloc (.cells #[x1, y1] t1)) (.cells #[x2, y2] t2)
 have a3 := below_alloc_new (w := ((w.alloc (.cells #[x0, y0] t0)).alloc (.cells #[x1, y1] t1)).alloc (.cells #[x2, y2] t2)) (.cells #[x3, y3] t3)
 rw [s1] at b1 a1
 rw [s2] at b2 a2
 rw [s3] at b3 a3
 refine ⟨((b0.below a1 (by omega)).below a2 (by omega)).below a3 (by omega), (b1.below a2 (by omega)).below a3 (by omega), b2.below a3 (by omega), b3, by simp [W], ?_⟩
 exact (below_a3 w _ _ _).trans (Below.less a3 (by omega))
open Go.RowKit
structure St (w W : World) (x0 y0 x1 y1 x2 y2 x3 y3 : Value) : Prop where
 b0 : Box W w.heap.size x0 y0
 b1 : Box W (w.heap.size + 1) x1 y1
 b2 : Box W (w.heap.size + 1 + 1) x2 y2
 b3 : Box W (w.heap.size + 1 + 1 + 1) x3 y3
 bw : Below w.heap.size w W
 sz : w.heap.size + 4 ≤ W.heap.size
section
variable {w W W' : World} {x0 y0 x1 y1 x2 y2 x3 y3 : Value}
theorem St.call (h : St w W x0 y0 x1 y1 x2 y2 x3 y3) (hb : Below W.heap.size W W') : St w W' x0 y0 x1 y1 x2 y2 x3 y3 :=
 ⟨h.b0.below hb (by have := h.sz; omega), h.b1.below hb (by have := h.sz; omega), h.b2.below hb (by have := h.sz; omega), h.b3.below hb (by have := h.sz; omega), h.bw.trans (Below.less hb h.bw.size), Nat.le_trans h.sz hb.size⟩
theorem St.s2 (h : St w W x0 y0 x1 y1 x2 y2 x3 y3) (u v : Value) : St w (setPair W (w.heap.size + 1 + 1) u v) x0 y0 x1 y1 u v x3 y3 :=
 ⟨h.b0.other (by omega) u v, h.b1.other (by omega) u v, h.b2.store u v, h.b3.other (by omega) u v, below_setPair h.bw (by omega) u v, by rw [setPair_size]; exact h.sz⟩
theorem St.s3 (h : St w W x0 y0 x1 y1 x2 y2 x3 y3) (u v : Value) : St w (setPair W (w.heap.size + 1 + 1 + 1) u v) x0 y0 x1 y1 x2 y2 u v :=
 ⟨h.b0.other (by omega) u v, h.b1.other (by omega) u v, h.b2.other (by omega) u v, h.b3.store u v, below_setPair h.bw (by omega) u v, by rw [setPair_size]; exact h.sz⟩
end
theorem IntR.pair {w : World} {b B : Nat} {z : Bool} {a : Option Addr} {n cc : Nat} (hb : Box w b (.bool z) (.slice a n cc)) {k : Bool} {A : Option Addr} {c : Nat} {L : List Nat} (h : IntR w B k A c L) (u v : Value) : IntR (setPair w b u v) B k A c L :=
 ⟨hb.row h.row (fun _ => by simp) (fun _ => by simp) u v, h.canon, h.sgn⟩
theorem RefR.pair {w : World} {b B : Nat} {z : Bool} {a : Option Addr} {n cc : Nat} (hb : Box w b (.bool z) (.slice a n cc)) {k : Bool} {A : Option Addr} {c : Nat} {L : List Nat} (h : RefR w B k A c L) (u v : Value) : RefR (setPair w b u v) B k A c L :=
 ⟨hb.row h.row (fun _ => by simp) (fun _ => by simp) u v, h.lim, h.top, h.sgn⟩
section
variable {w W : World} {z0 z1 z2 z3 : Bool} {a0 a1 a2 a3 : Option Addr} {n0 n1 n2 n3 m0 m1 m2 m3 : Nat}
end
end Go.Proofs.YtgihmikeapbpkaaGreatDoor
