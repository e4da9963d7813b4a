/- Contracts and the law of AllocateOrder, part 1: what was proved of each, callees first. -/
import Derived.Handed
import Derived.ProofKit
import Derived.ChangeSlices
import Derived.OpenShut
import Derived.Carry
import Derived.Test.YtocojbkhdijjeaaK2
namespace Go.Proofs.Ytocojbkhdijjeaa
theorem ind_le {R : List Int} {i k m : Nat} (hi : i < R.length) (h : bt R i k = true) (hk : rk R k < m) : rk R i < m := Nat.lt_trans (rk_lt hi h) hk
theorem countP_range (R : List Int) (p : Int → Bool) : ((List.range R.length).countP fun j => p (R.getD j 0)) = R.countP p := by
 have h : R = (List.range R.length).map fun j => R.getD j 0 := by
  apply List.ext_getElem
  ·simp
  ·intro i h1 h2; simp [List.getD_eq_getElem?_getD, h1]
 conv => rhs; rw [h]
 rw [List.countP_map]
 rfl
theorem rk_zero {R : List Int} {i : Nat} (h0 : R.getD i 0 = 0) : R.countP (fun x => decide (0 < x)) ≤ rk R i := by
 rw [← countP_range]
 refine countP_le fun j _ hj => ?_
 rw [bt_true]
 simp only [decide_eq_true_eq] at hj
 omega
theorem part_at {T W : Int} {ws : List Int} {i : Nat} (h : i < ws.length) : (partsP T W ws).getD i 0 = T * ws.getD i 0 / W + if rk (remL T W ws) i < (leftOf T W ws).toNat then 1 else 0 := by
 unfold partsP
 rw [givenL_at (by simp [quoL]; exact h), quoL_at h]
theorem part_zero {T W : Int} {ws : List Int} {i : Nat} (hW : 0 < W) (hs : ws.sum = W) (h : i < ws.length) (h0 : ws.getD i 0 = 0) : (partsP T W ws).getD i 0 = 0 := by
 have hr : (remL T W ws).getD i 0 = 0 := by rw [remL_at h, h0, Int.mul_zero, Int.zero_emod]
 have h1 := rk_zero hr
 have h2 := (left_in (T := T) hW hs).2.1
 rw [part_at h, h0, Int.mul_zero, Int.zero_ediv, if_neg (by omega)]
 rfl
theorem left_zero (W : Int) (ws : List Int) : leftOf 0 W ws = 0 := by
 unfold leftOf quoL
 have : (ws.map fun x => 0 * x / W) = ws.map fun _ => (0 : Int) := by simp
 rw [this]
 have : ∀ l : List Int, (l.map fun _ => (0 : Int)).sum = 0 := by intro l; induction l with
  | nil => rfl
  | cons a t ih => rw [List.map_cons, List.sum_cons, ih]; rfl
 rw [this]; rfl
theorem parts_order {T W : Int} {ws : List Int} {i k : Nat} (hT : 0 ≤ T) (hW : 0 < W) (hik : i < k) (hk : k < ws.length) :
  (ws.getD k 0 < ws.getD i 0 → 0 ≤ (partsP T W ws).getD i 0 - (partsP T W ws).getD k 0) ∧ (ws.getD i 0 < ws.getD k 0 → (partsP T W ws).getD i 0 - (partsP T W ws).getD k 0 ≤ 0) ∧
  (ws.getD i 0 = ws.getD k 0 → (partsP T W ws).getD i 0 - (partsP T W ws).getD k 0 = 0 ∨ (partsP T W ws).getD i 0 - (partsP T W ws).getD k 0 = 1) := by
 have hi : i < ws.length := by omega
 have hRl : (remL T W ws).length = ws.length := by simp [remL]
 rw [part_at hi, part_at hk]
 have ri := remL_at (T := T) (W := W) hi
 have rk' := remL_at (T := T) (W := W) hk
 generalize ws.getD i 0 = x at *
 generalize ws.getD k 0 = y at *
 have hx : W * (T * x / W) + T * x % W = T * x := Int.mul_ediv_add_emod _ _
 have hy : W * (T * y / W) + T * y % W = T * y := Int.mul_ediv_add_emod _ _
 have h1 := fun h => ind_le (R := remL T W ws) (i := i) (k := k) (m := (leftOf T W ws).toNat) (by omega) h
 have h2 := fun h => ind_le (R := remL T W ws) (i := k) (k := i) (m := (leftOf T W ws).toNat) (by omega) h
 rw [bt_true, ri, rk'] at h1 h2
 refine ⟨fun h => ?_, fun h => ?_, fun h => ?_⟩
 ·have h3 : T * y ≤ T * x := Int.mul_le_mul_of_nonneg_left (by omega) hT
  have h4 : T * y / W ≤ T * x / W := Int.ediv_le_ediv hW h3
  by_cases e : T * y / W = T * x / W
  ·rw [e] at hy ⊢
   have h5 : T * y % W ≤ T * x % W := by omega
   have := h1 (by omega)
   split <;> split <;> omega
  ·split <;> split <;> omega
 ·have h3 : T * x ≤ T * y := Int.mul_le_mul_of_nonneg_left (by omega) hT
  have h4 : T * x / W ≤ T * y / W := Int.ediv_le_ediv hW h3
  by_cases e : T * x / W = T * y / W
  ·rw [e] at hx ⊢
   by_cases h0 : T = 0
   ·subst h0
    rw [left_zero]
    simp
   ·have h6 : T * x < T * y := Int.mul_lt_mul_of_pos_left (by omega) (by omega)
    have := h2 (by omega)
    split <;> split <;> omega
  ·split <;> split <;> omega
 ·subst h
  have := h1 (by omega)
  split <;> split <;> omega

/-! ### Fairness -/
open Go.RowKit
set_option maxRecDepth 20000 in
set_option maxHeartbeats 6400000 in
theorem alorder_short (T : Int) (A : Option Addr) (c : Nat) (ws : List Int) (w : World) (hz : IntsAt .i64 w A ws) (hl : ws.length ≤ 100) :
  Calls Try.prog 8 #[.int .i64 T, .slice A ws.length c] w fun e w' => e = .returned (.bool true) ∧ Below w.heap.size w w' := by
 have hs1 := fun w h => alSplit_any T A c ws w h (by omega)
 have hB := Below.refl w.heap.size w
 have HZ := Lib.hid hz
 obtain ⟨len, hlen⟩ : ∃ len, ws.length = len := ⟨_, rfl⟩
 rw [hlen] at hl hs1 ⊢
 have HL := Lib.hid hlen
 have h3 : decide ((100 : Int) < (len : Int)) = false := decide_eq_false (by omega)
 by_cases hE : wsE T ws = 0
 ·have hok := wsE_ok hE
  rw [hE] at hs1
  by_cases hneg : T < 0
  ·generalize splitL T ws = L at *
   have HS1 := Lib.hid hs1
   clear hs1 hz hlen hE hok hl
   go_enter Try.func8, Try.ntmps8
   go_wp2_with (first
    | (go_at_call 11; refine (alAwake_any _).mono ?_; rintro e w1 ⟨rfl, hb⟩; replace hB := below_more hB hb; clear hb)
    | (go_at_call 16; refine (HS1.out _ (HZ.out.up hB)).mono ?_; rintro e w3 ⟨v3, rfl, ⟨A3, c3, rfl, hI3⟩, hb⟩; replace hB := below_more hB hb; clear hb; replace hI3 := Lib.hid hI3))
   go_ret
   exact ⟨rfl, hB⟩
  ·have hneg' : decide (T < 0) = false := decide_eq_false hneg
   have hL : splitL T ws = partsP T ws.sum ws := by unfold splitL partsL; rw [if_pos hE, if_neg hneg]
   have hLl : (splitL T ws).length = len := by rw [hL, partsP_len]; exact hlen
   have hord := fun i k (h1 : i < k) (h2 : k < ws.length) => parts_order (T := T) (W := ws.sum) (by omega) hok.pos h1 h2
   have hzer := fun i (h1 : i < ws.length) => part_zero (T := T) hok.pos rfl h1
   have hbd : ∀ x ∈ splitL T ws, 0 ≤ x ∧ x ≤ 1000000000000000001 := by rw [hL]; exact partsP_bd (by have := hok.amt; omega) hok rfl
   rw [← hL] at hord hzer
   generalize splitL T ws = L at *
   have HS1 := Lib.hid hs1
   have HLL := Lib.hid hLl
   have HORD := Lib.hid hord
   have HZER := Lib.hid hzer
   have HBD := Lib.hid hbd
   have hnn : ((len : Int) == (len : Int)) = true := by simp
   clear hs1 hz hlen hE hok hL hLl hord hzer hbd hneg
   go_enter Try.func8, Try.ntmps8
   go_wp2_with (first
    | (go_at_call 11; refine (alAwake_any _).mono ?_; rintro e w1 ⟨rfl, hb⟩; replace hB := below_more hB hb; clear hb)
    | (go_at_call 16; refine (HS1.out _ (HZ.out.up hB)).mono ?_; rintro e w3 ⟨v3, rfl, ⟨A3, c3, rfl, hI3⟩, hb⟩; rw [HLL.out]; replace hB := below_more hB hb; clear hb; replace hI3 := Lib.hid hI3))
   go_loopg [7, 8, 9] len (fun kx s7 s8 s9 wr => ∃ i : Nat, s7 = .int .i64 i ∧ i ≤ len ∧ len - i ≤ kx ∧ Hid (IntsAt .i64 wr A3 L) ∧ Below w.heap.size w wr)
   case atStart => exact ⟨0, rfl, by omega, by omega, hI3, hB⟩
   case round =>
    clear hI3 hB
    obtain ⟨i, rfl, hi, hkx, hI3, hB⟩ := hrel
    by_cases hlt : i < len
    ·have hltz : (i : Int) < (len : Int) := by omega
     go_wp2_with fail
     have hI4 := hI3
     have hB4 := hB
     clear hI3 hB
     go_loopg [8, 9] len (fun kx s8 s9 wr => ∃ k : Nat, s8 = .int .i64 k ∧ i < k ∧ k ≤ len ∧ len - k ≤ kx ∧ Hid (IntsAt .i64 wr A3 L) ∧ Below w.heap.size w wr)
     case atStart => exact ⟨i + 1, by go_num, by omega, by omega, by omega, hI4, hB4⟩
     case round =>
      clear hI4 hB4
      obtain ⟨k, rfl, hik, hk, hkx2, hI3, hB⟩ := hrel
      obtain ⟨b, off, rfl, hbw, hcs⟩ := HZ.out (by rw [HL.out]; omega)
      obtain ⟨b2, off2, rfl, hbw2, hcs2⟩ := hI3.out (by rw [HLL.out]; omega)
      have c1 := (hB.cell (p := ⟨b, off + i, none⟩) hbw).trans (hcs i (by rw [HL.out]; exact hlt))
      have c3 := hcs2 i (by rw [HLL.out]; exact hlt)
      have hb3 := HBD.out (L.getD i 0) (mem_getD (by rw [HLL.out]; exact hlt))
      by_cases hlt2 : k < len
      ·have hltz2 : (k : Int) < (len : Int) := by omega
       have c2 := (hB.cell (p := ⟨b, off + k, none⟩) hbw).trans (hcs k (by rw [HL.out]; exact hlt2))
       have c4 := hcs2 k (by rw [HLL.out]; exact hlt2)
       have hb4 := HBD.out (L.getD k 0) (mem_getD (by rw [HLL.out]; exact hlt2))
       obtain ⟨o1, o2, o3⟩ := HORD.out i k hik (by rw [HL.out]; exact hlt2)
       generalize ws.getD i 0 = x at *
       generalize ws.getD k 0 = y at *
       generalize L.getD i 0 = p at *
       generalize L.getD k 0 = q at *
       obtain ⟨b31, b32⟩ := hb3
       obtain ⟨b41, b42⟩ := hb4
       obtain ⟨D, hD⟩ : ∃ D, p - q = D := ⟨_, rfl⟩
       rw [hD] at o1 o2 o3
       have HD : Hid (D = p - q) := Lib.hid hD.symm
       have d1 : -1000000000000000001 ≤ D := by omega
       have d2 : D ≤ 1000000000000000001 := by omega
       clear hcs hcs2
       by_cases h1 : y < x
       ·have f1 : decide (D < 0) = false := decide_eq_false (by have := o1 h1; omega)
        have f2 : decide (x < y) = false := decide_eq_false (by omega)
        have f3 : (x == y) = false := by simp; omega
        clear o1 o2 o3
        go_wp2_with fail
        go_quiet (fail)
        replace hI3 : Hid (IntsAt .i64 (World.drewN wr nq) (some ⟨b2, off2, none⟩) L) := hI3
        replace hB := below_drewN hB nq
        replace c1 : (World.drewN wr nq).cell? ⟨b, off + i, none⟩ = some (.int .i64 x) := c1
        replace c2 : (World.drewN wr nq).cell? ⟨b, off + k, none⟩ = some (.int .i64 y) := c2
        generalize World.drewN wr nq = W1 at *
        clear c3 c4
        go_wp2_with fail
        go_quiet (fail)
        replace hI3 : Hid (IntsAt .i64 (World.drewN W1 nq) (some ⟨b2, off2, none⟩) L) := hI3
        replace hB := below_drewN hB nq
        clear c1 c2
        generalize World.drewN W1 nq = W2 at *
        go_wp2_with fail
        go_roundg (len - (k + 1))
        case measure => omega
        case rel => exact ⟨k + 1, by go_num, by omega, by omega, by omega, hI3, hB⟩
       ·have h1' : decide (y < x) = false := decide_eq_false h1
        by_cases h2 : x < y
        ·have f1 : decide (0 < D) = false := decide_eq_false (by have := o2 h2; omega)
         have f3 : (x == y) = false := by simp; omega
         clear o1 o2 o3 h1
         go_wp2_with fail
         go_quiet (fail)
         replace hI3 : Hid (IntsAt .i64 (World.drewN wr nq) (some ⟨b2, off2, none⟩) L) := hI3
         replace hB := below_drewN hB nq
         replace c1 : (World.drewN wr nq).cell? ⟨b, off + i, none⟩ = some (.int .i64 x) := c1
         replace c2 : (World.drewN wr nq).cell? ⟨b, off + k, none⟩ = some (.int .i64 y) := c2
         generalize World.drewN wr nq = W1 at *
         clear c3 c4
         go_wp2_with fail
         go_quiet (fail)
         replace hI3 : Hid (IntsAt .i64 (World.drewN W1 nq) (some ⟨b2, off2, none⟩) L) := hI3
         replace hB := below_drewN hB nq
         clear c1 c2
         generalize World.drewN W1 nq = W2 at *
         go_wp2_with fail
         go_roundg (len - (k + 1))
         case measure => omega
         case rel => exact ⟨k + 1, by go_num, by omega, by omega, by omega, hI3, hB⟩
        ·have h2' : decide (x < y) = false := decide_eq_false h2
         have f3 : (x == y) = true := by simp; omega
         rcases o3 (by omega) with h4 | h4
         ·have f4 : (D != 0) = false := by simp [h4]
          have f5 : (D == 0) = true := by simp [h4]
          clear h4
          clear o1 o2 o3 h1 h2
          go_wp2_with fail
          go_quiet (fail)
          replace hI3 : Hid (IntsAt .i64 (World.drewN wr nq) (some ⟨b2, off2, none⟩) L) := hI3
          replace hB := below_drewN hB nq
          replace c1 : (World.drewN wr nq).cell? ⟨b, off + i, none⟩ = some (.int .i64 x) := c1
          replace c2 : (World.drewN wr nq).cell? ⟨b, off + k, none⟩ = some (.int .i64 y) := c2
          generalize World.drewN wr nq = W1 at *
          clear c3 c4
          go_wp2_with fail
          go_quiet (fail)
          replace hI3 : Hid (IntsAt .i64 (World.drewN W1 nq) (some ⟨b2, off2, none⟩) L) := hI3
          replace hB := below_drewN hB nq
          clear c1 c2
          generalize World.drewN W1 nq = W2 at *
          go_wp2_with fail
          go_roundg (len - (k + 1))
          case measure => omega
          case rel => exact ⟨k + 1, by go_num, by omega, by omega, by omega, hI3, hB⟩
         ·have f4 : (D != 0) = true := by simp [h4]
          have f5 : (D == 0) = false := by simp [h4]
          have f6 : (D != 1) = false := by simp [h4]
          have f7 : (D == 1) = true := by simp [h4]
          clear h4
          clear o1 o2 o3 h1 h2
          go_wp2_with fail
          go_quiet (fail)
          replace hI3 : Hid (IntsAt .i64 (World.drewN wr nq) (some ⟨b2, off2, none⟩) L) := hI3
          replace hB := below_drewN hB nq
          replace c1 : (World.drewN wr nq).cell? ⟨b, off + i, none⟩ = some (.int .i64 x) := c1
          replace c2 : (World.drewN wr nq).cell? ⟨b, off + k, none⟩ = some (.int .i64 y) := c2
          generalize World.drewN wr nq = W1 at *
          clear c3 c4
          go_wp2_with fail
          go_quiet (fail)
          replace hI3 : Hid (IntsAt .i64 (World.drewN W1 nq) (some ⟨b2, off2, none⟩) L) := hI3
          replace hB := below_drewN hB nq
          clear c1 c2
          generalize World.drewN W1 nq = W2 at *
          go_wp2_with fail
          go_roundg (len - (k + 1))
          case measure => omega
          case rel => exact ⟨k + 1, by go_num, by omega, by omega, by omega, hI3, hB⟩
      ·have hkl : k = len := by omega
       have hltz2 : ¬ (k : Int) < (len : Int) := by omega
       have hz0 := HZER.out i (by rw [HL.out]; exact hlt)
       generalize ws.getD i 0 = x at *
       generalize L.getD i 0 = p at *
       by_cases hx0 : x = 0
       ·have f1 : (x == 0) = true := by simp [hx0]
        have f2 : (p == 0) = true := by simp [hz0 hx0]
        have f3 : (p != 0) = false := by simp [hz0 hx0]
        clear hz0 hx0 hcs hcs2
        go_wp2_with fail
        go_roundg (len - (i + 1))
        case measure => omega
        case rel => exact ⟨i + 1, by go_num, by omega, by omega, hI3, hB⟩
       ·have f1 : (x == 0) = false := by simp [hx0]
        clear hz0 hx0 hcs hcs2
        go_wp2_with fail
        go_roundg (len - (i + 1))
        case measure => omega
        case rel => exact ⟨i + 1, by go_num, by omega, by omega, hI3, hB⟩
    ·have hil : i = len := by omega
     have hltz : ¬ (i : Int) < (len : Int) := by omega
     go_wp2_with fail
     go_ret
     exact ⟨rfl, hB⟩
 ·generalize splitL T ws = L at *
  have hE2 : (wsE T ws == 0) = false := by simp [hE]
  have hE3 : (wsE T ws != 0) = true := by simp [hE]
  generalize wsE T ws = E at *
  have HS1 := Lib.hid hs1
  clear hs1 hz hlen hE hl
  go_enter Try.func8, Try.ntmps8
  go_wp2_with (first
   | (go_at_call 11; refine (alAwake_any _).mono ?_; rintro e w1 ⟨rfl, hb⟩; replace hB := below_more hB hb; clear hb)
   | (go_at_call 16; refine (HS1.out _ (HZ.out.up hB)).mono ?_; rintro e w3 ⟨v3, rfl, ⟨A3, c3, rfl, hI3⟩, hb⟩; replace hB := below_more hB hb; clear hb; replace hI3 := Lib.hid hI3))
  go_ret
  exact ⟨rfl, hB⟩
set_option maxRecDepth 20000 in
set_option maxHeartbeats 3200000 in
theorem alorder_long (T : Int) (A : Option Addr) (len c : Nat) (w : World) (hl : 100 < len) (hl2 : len ≤ 9223372036854775807) :
  Calls Try.prog 8 #[.int .i64 T, .slice A len c] w fun e w' => e = .returned (.bool true) ∧ Below w.heap.size w w' := by
 have hB := Below.refl w.heap.size w
 have h3 : (100 : Int) < (len : Int) := by omega
 go_enter Try.func8, Try.ntmps8
 go_wp2_with (go_at_call 11; refine (alAwake_any _).mono ?_; rintro e w1 ⟨rfl, hb⟩; replace hB := below_more hB hb; clear hb)
 go_ret
 exact ⟨rfl, hB⟩
theorem law_alorder (T : Int) (A : Option Addr) (len c : Nat) (ws : List Int) (w : World) (hlen : ws.length = len) (hmax : len ≤ 9223372036854775807) (hz : IntsAt .i64 w A ws) :
  Calls Try.prog 8 #[.int .i64 T, .slice A len c] w fun e w' => e = .returned (.bool true) ∧ Below w.heap.size w w' := by
 by_cases h : len ≤ 100
 ·subst hlen; exact alorder_short T A c ws w hz h
 ·exact alorder_long T A len c w (by omega) hmax
open Go.ChangeShapes Go.WideShapes Go.ChangeAt Go.WideMaps Go.WideElems Go.RowKit
theorem open_islice {H : Type} {enc : TypeId × Value → H} {P : Program} {W : World} {b0 : Nat} {T E : TypeId} {k : IntKind} {v : Value} {d : DataW H} {p : List MemPlace} (hT : P.underlying T = some (.slice E)) (hE : P.underlying E = some (.int k)) (hc : P.cellsOf E = 1)
  (hval : Value.okWide P W .any b0 T v) (h : DataW.Trod enc P W 0 (fun _ => true) true T v d p) :
  ∃ A len cap zs, v = .slice A len cap ∧ zs.length = len ∧ len ≤ 9223372036854775807 ∧ IntsAt k W A zs ∧ ∀ x ∈ zs, (Lit.int k x).wf = true := by
 obtain ⟨a0, len, cap, rfl⟩ := okWide_slice hT hval
 obtain ⟨fuel, hf⟩ := h
 rcases open_ints hT hE hc hf with ⟨hcs, hx⟩ | ⟨a, len', cap', zs, hcs, _, hl, hm, hz, hx, hcell, hwz⟩
 ·simp [Value.cells] at hcs
  obtain ⟨rfl, rfl, rfl⟩ := hcs
  exact ⟨none, 0, 0, [], rfl, rfl, by omega, IntsAt.nil, by simp⟩
 ·simp [Value.cells] at hcs
  obtain ⟨rfl, rfl, rfl⟩ := hcs
  simp only [if_true] at hz
  unfold maxLen at hm
  have hle : (zs.take len).length = len := by rw [List.length_take, hz]; omega
  refine ⟨_, len, cap, zs.take len, rfl, hle, by omega, fun h0 => ?_, fun x hx => hwz x (List.mem_of_mem_take hx)⟩
  have hl0 : 0 < len := by omega
  obtain ⟨b, off, spot⟩ := a
  have hspot : spot = none := by simpa [Addr.add] using World.cell?_spot (hcell 0 (by omega))
  subst hspot
  have hlt : b < W.heap.size := by
   have h9 := hcell 0 (by omega)
   rcases Nat.lt_or_ge b W.heap.size with hlt | hge
   ·exact hlt
   ·unfold World.cell? at h9
    rw [show (Addr.add ⟨b, off, none⟩ 0).block = b from by rw [block_add], Array.getElem?_eq_none hge] at h9
    simp at h9
  refine ⟨b, off, rfl, hlt, fun i hi => ?_⟩
  rw [hle] at hi
  have h1 := hcell i (by omega)
  rw [add_plain] at h1
  rw [h1, List.getD_eq_getElem?_getD, List.getD_eq_getElem?_getD, List.getElem?_take, if_pos hi]
end Go.Proofs.Ytocojbkhdijjeaa
