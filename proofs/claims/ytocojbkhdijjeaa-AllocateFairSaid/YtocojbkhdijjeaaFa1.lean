/- Contracts and the law of AllocateFair, part 1: what was proved of each, callees first. -/
import Derived.Deep.QuietTactic
import Derived.BigQuiet
import Derived.Outline
import Derived.OpenShut
import Derived.Handed
import Derived.ProofKit
import Derived.ChangeSlices
import Derived.Carry
import Derived.Test.YtocojbkhdijjeaaK2
namespace Go.Proofs.Ytocojbkhdijjeaa
theorem order_is (R : List Int) : ∃ O : List Nat, O.Perm (List.range R.length) ∧ O.Pairwise fun a b => bt R a b = true := by
 let le : Nat → Nat → Bool := fun a b => !bt R b a
 have hp := List.mergeSort_perm (List.range R.length) le
 have htr : ∀ a b c : Nat, le a b = true → le b c = true → le a c = true := fun a b c h1 h2 => by
  simp only [le, Bool.not_eq_true'] at *
  rw [bt_false] at *
  omega
 have hto : ∀ a b : Nat, (le a b || le b a) = true := fun a b => by
  simp only [le]
  cases h : bt R b a with
  | false => rfl
  | true => rw [bt_asymm h]; rfl
 have hs := List.pairwise_mergeSort htr hto (List.range R.length)
 refine ⟨_, hp, ?_⟩
 have hn : ((List.range R.length).mergeSort le).Nodup := hp.nodup_iff.2 List.nodup_range
 refine (hs.and hn).imp ?_
 rintro a b ⟨h1, h2⟩
 rcases bt_tri (R := R) h2 with h | h
 ·exact h
 ·simp only [le, h] at h1; cases h1
theorem countP_perm_rk (R : List Int) (m : Nat) (hm : m ≤ R.length) : ((List.range R.length).countP fun i => decide (rk R i < m)) = m := by
 obtain ⟨O, hp, hs⟩ := order_is R
 have hl : O.length = R.length := by rw [hp.length_eq, List.length_range]
 rw [← hp.countP_eq]
 have : ∀ (l : List Nat) (f : Nat → Nat) (s : Nat), (∀ k, (h : k < l.length) → f l[k] = s + k) → l.countP (fun i => decide (f i < m)) = min l.length (m - s) := by
  intro l f
  induction l with
  | nil => intro s _; simp
  | cons a t ih =>
   intro s h
   have h0 : f a = s := h 0 (by simp)
   have hi := ih (s + 1) fun k hk => by have := h (k + 1) (by simp; omega); simp at this; omega
   rw [List.countP_cons, hi, h0, List.length_cons]
   by_cases c : s < m
   ·rw [decide_eq_true c]; simp; omega
   ·rw [decide_eq_false c]; simp; omega
 rw [this O (rk R) 0 fun k hk => by rw [order_rk hp hs k hk]; omega]
 omega

/-! ### Quotients and remainders -/
open Go.RowKit
theorem rmvalid_any (n : Int) (w : World) : Calls Try.prog 24 #[.int .i64 n] w fun e w' => e = .returned (.bool (amtB n)) ∧ w = w' := by
 unfold amtB
 by_cases h1 : (-1000000000000 : Int) ≤ n
 ·by_cases h2 : n ≤ 1000000000000
  ·rw [decide_eq_true h1, decide_eq_true h2]
   go_enter Try.func24, Try.ntmps24
   go_wp2
   go_ret
   exact ⟨rfl, rfl⟩
  ·rw [decide_eq_true h1, decide_eq_false h2]
   have h3 : decide (n ≤ 1000000000000) = false := decide_eq_false h2
   clear h2
   go_enter Try.func24, Try.ntmps24
   go_wp2
   go_ret
   exact ⟨rfl, rfl⟩
 ·rw [decide_eq_false h1]
  have h3 : decide ((-1000000000000 : Int) ≤ n) = false := decide_eq_false h1
  clear h1
  go_enter Try.func24, Try.ntmps24
  go_wp2
  go_ret
  exact ⟨rfl, rfl⟩
set_option maxRecDepth 20000 in
set_option maxHeartbeats 3200000 in
theorem rcheck_any (T : Int) (A : Option Addr) (c : Nat) (ws : List Int) (w : World) (hz : IntsAt .i64 w A ws) (hmax : ws.length ≤ 9223372036854775807) :
  Calls Try.prog 31 #[.int .i64 T, .slice A ws.length c] w fun e w' => e = .returned (.tuple #[.int .i64 (wsV T ws), .int .i64 (wsE T ws)]) ∧ Below w.heap.size w w' := by
 have hV := fun w => rmvalid_any T w
 have hB := Below.refl w.heap.size w
 cases h0 : amtB T
 ·have e1 : wsE T ws = 1 := by unfold wsE; rw [h0]; rfl
  have e2 : wsV T ws = 0 := by unfold wsV; rw [e1]; rfl
  rw [e1, e2]
  rw [h0] at hV
  have HV := Lib.hid hV
  clear hV hz e1 e2
  go_enter Try.func31, Try.ntmps31
  go_wp2_with (go_at_call 24; refine (HV.out _).mono ?_; rintro e w' ⟨rfl, rfl⟩)
  go_ret2
  exact ⟨rfl, hB⟩
 ·rw [h0] at hV
  have HV := Lib.hid hV
  clear hV
  by_cases hlo : ws.length < 1
  ·have e1 : wsE T ws = 1 := by unfold wsE; rw [h0, decide_eq_false (show ¬ 1 ≤ ws.length by omega)]; rfl
   have e2 : wsV T ws = 0 := by unfold wsV; rw [e1]; rfl
   rw [e1, e2]
   have hl : ws.length = 0 := by omega
   rw [hl]
   clear e1 e2 hz hlo hl hmax
   go_enter Try.func31, Try.ntmps31
   go_wp2_with (go_at_call 24; refine (HV.out _).mono ?_; rintro e w' ⟨rfl, rfl⟩)
   go_ret2
   exact ⟨rfl, hB⟩
  ·by_cases hhi : 1000 < ws.length
   ·have e1 : wsE T ws = 1 := by unfold wsE; rw [h0, decide_eq_false (show ¬ ws.length ≤ 1000 by omega), Bool.and_false]; rfl
    have e2 : wsV T ws = 0 := by unfold wsV; rw [e1]; rfl
    rw [e1, e2]
    generalize ws.length = len at *
    have hd1 : decide ((len : Int) < 1) = false := decide_eq_false (by omega)
    have hd2 : (1000 : Int) < (len : Int) := by omega
    clear e1 e2 hz hlo hhi
    go_enter Try.func31, Try.ntmps31
    go_wp2_with (go_at_call 24; refine (HV.out _).mono ?_; rintro e w' ⟨rfl, rfl⟩)
    go_ret2
    exact ⟨rfl, hB⟩
   ·have hE : wsE T ws = if ws.all wgB = true then if ws.sum = 0 then 10 else 0 else 1 := by unfold wsE; rw [h0, decide_eq_true (show 1 ≤ ws.length by omega), decide_eq_true (show ws.length ≤ 1000 by omega)]; rfl
    obtain ⟨len, hlen⟩ : ∃ len, ws.length = len := ⟨_, rfl⟩
    rw [hlen] at hlo hhi hmax ⊢
    have HL := Lib.hid hlen
    have HZ := Lib.hid hz
    have HE := Lib.hid hE
    have hd1 : decide ((len : Int) < 1) = false := decide_eq_false (by omega)
    have hd2 : decide ((1000 : Int) < (len : Int)) = false := decide_eq_false (by omega)
    clear hlen hz hE hmax
    go_enter Try.func31, Try.ntmps31
    go_wp2_with (go_at_call 24; refine (HV.out _).mono ?_; rintro e w' ⟨rfl, rfl⟩)
    go_loopg [6, 7] len (fun kx s6 s24 wr => ∃ (k : Nat) (S : Int), s6 = .int .i64 S ∧ s24 = .int .i64 k ∧ k ≤ len ∧ len - k ≤ kx ∧ 0 ≤ S ∧ S ≤ (k : Int) * 1000000 ∧ Hid (S = (ws.take k).sum) ∧ Hid ((ws.take k).all wgB = true) ∧ wr = w)
    case atStart => exact ⟨0, 0, rfl, rfl, by omega, by omega, by omega, by omega, Lib.hid (by simp), Lib.hid (by simp), rfl⟩
    case round =>
     obtain ⟨k, S, rfl, rfl, hk, hkx, hS0, hS1, HS, HA, rfl⟩ := hrel
     by_cases hlt : k < len
     ·have hltz : (k : Int) < (len : Int) := by omega
      obtain ⟨b, off, rfl, hbw, hcs⟩ := HZ.out (by rw [HL.out]; omega)
      have hc := hcs k (by rw [HL.out]; exact hlt)
      obtain ⟨x, hx⟩ : ∃ x, ws.getD k 0 = x := ⟨_, rfl⟩
      rw [hx] at hc
      have HX := Lib.hid hx
      clear hx hcs
      cases hok : wgB x
      ·have hno : Hid (ws.all wgB = false) := Lib.hid (all_false_at (by rw [HL.out]; exact hlt) (by rw [HX.out]; exact hok))
       have e1 : Hid (wsE T ws = 1) := Lib.hid (by rw [HE.out, hno.out]; rfl)
       have e2 : Hid (wsV T ws = 0) := Lib.hid (by unfold wsV; rw [e1.out]; rfl)
       rcases wgB_no hok with h1 | h1
       ·clear hok
        go_wp2_with fail
        go_ret2
        exact ⟨by rw [e1.out, e2.out]; rfl, hB⟩
       ·have h2 : decide (x < 0) = false := decide_eq_false (by omega)
        clear hok
        go_wp2_with fail
        go_ret2
        exact ⟨by rw [e1.out, e2.out]; rfl, hB⟩
      ·obtain ⟨x1, x2⟩ := wgB_is hok
       have HA2 : Hid ((ws.take (k + 1)).all wgB = true) := Lib.hid (by rw [take_all1 ws k (by rw [HL.out]; exact hlt), HA.out, HX.out, hok]; rfl)
       have HS2 : Hid (S + x = (ws.take (k + 1)).sum) := Lib.hid (by rw [take_sum1 ws k (by rw [HL.out]; exact hlt), HS.out, HX.out])
       have h2 : decide (x < 0) = false := decide_eq_false (by omega)
       have h3 : decide (1000000 < x) = false := decide_eq_false (by omega)
       clear hok
       go_wp2_with fail
       go_roundg (len - (k + 1))
       case measure => omega
       case rel => exact ⟨k + 1, S + x, rfl, by go_num, by omega, by omega, by omega, by omega, HS2, HA2, rfl⟩
     ·have hkl : k = len := by omega
      have hltz : ¬ (k : Int) < (len : Int) := by omega
      have hall : ws.all wgB = true := by have := HA.out; rwa [List.take_of_length_le (by rw [HL.out]; omega)] at this
      have hsum : ws.sum = S := by have := HS.out; rw [List.take_of_length_le (by rw [HL.out]; omega)] at this; exact this.symm
      have hE2 : Hid (wsE T ws = if S = 0 then 10 else 0) := Lib.hid (by rw [HE.out, if_pos hall, hsum])
      have hV2 : Hid (wsV T ws = if wsE T ws = 0 then S else 0) := Lib.hid (by unfold wsV; rw [hsum])
      clear hall hsum
      by_cases hs0 : S = 0
      ·have hs1 : (S == 0) = true := by simp [hs0]
       have e1 : Hid (wsE T ws = 10) := Lib.hid (by rw [hE2.out, if_pos hs0])
       have e2 : Hid (wsV T ws = 0) := Lib.hid (by rw [hV2.out, e1.out]; rfl)
       clear hE2 hV2
       go_wp2_with fail
       go_ret2
       exact ⟨by rw [e1.out, e2.out]; rfl, hB⟩
      ·have hs1 : (S == 0) = false := by simp [hs0]
       have e1 : Hid (wsE T ws = 0) := Lib.hid (by rw [hE2.out, if_neg hs0])
       have e2 : Hid (wsV T ws = S) := Lib.hid (by rw [hV2.out, e1.out]; rfl)
       clear hE2 hV2
       go_wp2_with fail
       go_ret2
       exact ⟨by rw [e1.out, e2.out]; rfl, hB⟩
theorem countP_range (R : List Int) (p : Int → Bool) : ((List.range R.length).countP fun j => p (R.getD j 0)) = R.countP p := by
 have h : R = (List.range R.length).map fun j => R.getD j 0 := by
  apply List.ext_getElem
  ·simp
  ·intro i h1 h2; simp [List.getD_eq_getElem?_getD, h1]
 conv => rhs; rw [h]
 rw [List.countP_map]
 rfl
theorem rk_zero {R : List Int} {i : Nat} (h0 : R.getD i 0 = 0) : R.countP (fun x => decide (0 < x)) ≤ rk R i := by
 rw [← countP_range]
 refine countP_le fun j _ hj => ?_
 rw [bt_true]
 simp only [decide_eq_true_eq] at hj
 omega
theorem part_at {T W : Int} {ws : List Int} {i : Nat} (h : i < ws.length) : (partsP T W ws).getD i 0 = T * ws.getD i 0 / W + if rk (remL T W ws) i < (leftOf T W ws).toNat then 1 else 0 := by
 unfold partsP
 rw [givenL_at (by simp [quoL]; exact h), quoL_at h]
def nearB (p num den : Int) : Bool := if 0 < num.tmod den then decide (p = num.tdiv den) || decide (p = num.tdiv den + 1) else if num.tmod den < 0 then decide (p = num.tdiv den) || decide (p = num.tdiv den - 1) else decide (p = num.tdiv den)
def nearA (T W : Int) (ws ps : List Int) (i : Nat) : Bool := nearB (ps.getD i 0) (T * ws.getD i 0) W
def fairB (T : Int) (ws ps : List Int) : Bool := decide (wsE T ws = 0) && (decide (ps.length = ws.length) && ((List.range ps.length).all (nearA T ws.sum ws ps) && decide (ps.sum = T)))
theorem nearB_bd {p num den : Int} (h : nearB p num den = true) : -((num.natAbs / den.natAbs : Nat) : Int) - 1 ≤ p ∧ p ≤ ((num.natAbs / den.natAbs : Nat) : Int) + 1 := by
 have e : (num.tdiv den).natAbs = num.natAbs / den.natAbs := Int.natAbs_tdiv _ _
 unfold nearB at h
 split at h
 ·simp only [Bool.or_eq_true, decide_eq_true_eq] at h; omega
 ·split at h
  ·simp only [Bool.or_eq_true, decide_eq_true_eq] at h; omega
  ·simp only [decide_eq_true_eq] at h; omega
theorem near_sum {T W : Int} {ws ps : List Int} (hok : WsOk T ws) (hW : ws.sum = W) (hl : ps.length = ws.length) : ∀ k, k ≤ ps.length → (∀ i, i < k → nearA T W ws ps i = true) → -1000000000000 - (k : Int) ≤ (ps.take k).sum ∧ (ps.take k).sum ≤ 1000000000000 + (k : Int) := by
 have hW0 : 0 < W := by rw [← hW]; exact hok.pos
 obtain ⟨U, hU⟩ : ∃ U : Int, (T.natAbs : Int) = U := ⟨_, rfl⟩
 have hU1 : 0 ≤ U ∧ U ≤ 1000000000000 := by have := hok.amt; omega
 have key : ∀ k, k ≤ ps.length → (∀ i, i < k → nearA T W ws ps i = true) → -((quoL U W ws).take k).sum - (k : Int) ≤ (ps.take k).sum ∧ (ps.take k).sum ≤ ((quoL U W ws).take k).sum + (k : Int) := by
  intro k
  induction k with
  | zero => intro _ _; simp
  | succ k ih =>
   intro hk h
   have ih := ih (by omega) fun i hi => h i (by omega)
   have h1 := nearB_bd (h k (by omega))
   rw [take_sum1 ps k (by omega), take_sum1 (quoL U W ws) k (by simp [quoL]; omega), quoL_at (by omega)]
   have hx := hok.all (ws.getD k 0) (mem_getD (by omega))
   generalize ws.getD k 0 = x at *
   have e2 : ((T * x).natAbs / W.natAbs : Nat) = U * x / W := by
    rw [Int.natAbs_mul, ← hU]
    have e3 : ((T.natAbs * x.natAbs / W.natAbs : Nat) : Int) = ((T.natAbs : Int) * (x.natAbs : Int)) / (W.natAbs : Int) := by simp
    rw [e3, show (x.natAbs : Int) = x by omega, show (W.natAbs : Int) = W by omega]
   rw [e2] at h1
   omega
 intro k hk h
 have h1 := key k hk h
 have h2 := take_sum_in (quoL_nn (T := U) (W := W) (ws := ws) hU1.1 hW0 (fun x hx => (hok.all x hx).1)) k
 have h3 := (left_in (T := U) hW0 hW).1
 unfold leftOf at h3
 omega
theorem sum_ind : ∀ (l : List Nat) (f : Nat → Int) (p : Nat → Bool), (l.map fun i => f i + if p i = true then 1 else 0).sum = (l.map f).sum + (l.countP p : Nat)
 | [], _, _ => by simp
 | a :: t, f, p => by
  rw [List.map_cons, List.sum_cons, sum_ind t f p, List.map_cons, List.sum_cons, List.countP_cons]
  cases p a <;> simp <;> omega
theorem partsP_sum {T W : Int} {ws : List Int} (hW : 0 < W) (hs : ws.sum = W) : (partsP T W ws).sum = T := by
 have h1 := left_in (T := T) hW hs
 have hRl : (remL T W ws).length = ws.length := by simp [remL]
 have hQl : (quoL T W ws).length = ws.length := by simp [quoL]
 obtain ⟨m, hm⟩ : ∃ m : Nat, leftOf T W ws = m := ⟨(leftOf T W ws).toNat, by omega⟩
 unfold partsP
 rw [hm, Int.toNat_natCast]
 unfold givenL
 have h2 := sum_ind (List.range (quoL T W ws).length) (fun i => (quoL T W ws).getD i 0) (fun i => decide (rk (remL T W ws) i < m))
 simp only [decide_eq_true_eq] at h2
 rw [h2]
 have h3 := countP_perm_rk (remL T W ws) m (by omega)
 rw [hRl] at h3
 rw [hQl, h3]
 have h4 : ((List.range ws.length).map fun i => (quoL T W ws).getD i 0) = quoL T W ws := by
  apply List.ext_getElem
  ·simp [quoL]
  ·intro i h1 h2; simp [List.getD_eq_getElem?_getD, h2]
 rw [h4]
 unfold leftOf at hm
 omega
theorem neg_sum : ∀ l : List Int, (l.map fun x => -x).sum = -l.sum
 | [] => rfl
 | a :: t => by rw [List.map_cons, List.sum_cons, neg_sum t, List.sum_cons]; omega
theorem nearB_neg (p num den : Int) : nearB (-p) (-num) den = nearB p num den := by
 have e1 : (-num).tdiv den = -(num.tdiv den) := Int.neg_tdiv ..
 have e2 : (-num).tmod den = -(num.tmod den) := Int.neg_tmod ..
 unfold nearB
 rw [e1, e2]
 generalize num.tdiv den = q
 generalize num.tmod den = r
 rw [Bool.eq_iff_iff]
 by_cases h1 : 0 < r
 ·rw [if_neg (by omega), if_pos (by omega), if_pos h1]; simp only [Bool.or_eq_true, decide_eq_true_eq]; omega
 ·by_cases h2 : r < 0
  ·rw [if_pos (by omega), if_neg h1, if_pos h2]; simp only [Bool.or_eq_true, decide_eq_true_eq]; omega
  ·rw [if_neg (by omega), if_neg (by omega), if_neg h1, if_neg h2]; simp only [decide_eq_true_eq]; omega
theorem parts_near {T W : Int} {ws : List Int} {i : Nat} (hT : 0 ≤ T) (hW : 0 < W) (hs : ws.sum = W) (hw : ∀ x ∈ ws, 0 ≤ x) (h : i < ws.length) : nearA T W ws (partsP T W ws) i = true := by
 unfold nearA
 have h1 := rk_zero (R := remL T W ws) (i := i)
 rw [remL_at h] at h1
 have h2 := (left_in (T := T) hW hs).2.1
 rw [part_at h]
 have hx := hw _ (mem_getD h)
 generalize ws.getD i 0 = x at *
 have h3 : 0 ≤ T * x := Int.mul_nonneg hT hx
 have h4 : 0 ≤ T * x % W := Int.emod_nonneg _ (by omega)
 unfold nearB
 rw [Int.tdiv_eq_ediv_of_nonneg h3, Int.tmod_eq_emod_of_nonneg h3]
 by_cases h5 : 0 < T * x % W
 ·rw [if_pos h5]
  simp only [Bool.or_eq_true, decide_eq_true_eq]
  split <;> omega
 ·rw [if_neg h5, if_neg (by omega)]
  have := h1 (by omega)
  rw [if_neg (by omega)]
  simp
theorem split_fair {T : Int} {ws : List Int} (hE : wsE T ws = 0) : fairB T ws (splitL T ws) = true := by
 have hok := wsE_ok hE
 have hw : ∀ x ∈ ws, 0 ≤ x := fun x hx => (hok.all x hx).1
 unfold fairB splitL
 rw [decide_eq_true hE, if_pos hE, partsL_len, decide_eq_true rfl, Bool.true_and, Bool.true_and, Bool.and_eq_true, List.all_eq_true, decide_eq_true_eq]
 unfold partsL
 by_cases hn : T < 0
 ·rw [if_pos hn]
  refine ⟨fun i hi => ?_, by rw [neg_sum, partsP_sum hok.pos rfl]; omega⟩
  have hil : i < ws.length := List.mem_range.1 hi
  have h := parts_near (T := -T) (i := i) (by omega) hok.pos rfl hw hil
  unfold nearA at h ⊢
  have e : ((partsP (-T) ws.sum ws).map fun x => -x).getD i 0 = -((partsP (-T) ws.sum ws).getD i 0) := by
   rw [List.getD_eq_getElem?_getD, List.getElem?_map, List.getD_eq_getElem?_getD, List.getElem?_eq_getElem (by rw [partsP_len]; exact hil)]; rfl
  rw [e, show T * ws.getD i 0 = -(-T * ws.getD i 0) by rw [Int.neg_mul, Int.neg_neg], nearB_neg]
  exact h
 ·rw [if_neg hn]
  refine ⟨fun i hi => parts_near (by omega) hok.pos rfl hw (List.mem_range.1 hi), partsP_sum hok.pos rfl⟩

/-! ### Scaling -/
set_option maxRecDepth 20000 in
set_option maxHeartbeats 1600000 in
theorem isNear_any (p num den : Int) (w : World) (hp : -9223372036854775808 ≤ p ∧ p ≤ 9223372036854775807) (hn : -1000000000000000000 ≤ num ∧ num ≤ 1000000000000000000) (hd : 0 < den) :
  Calls Try.prog 32 #[.int .i64 p, .int .i64 num, .int .i64 den] w fun e w' => e = .returned (.bool (nearB p num den)) ∧ Below w.heap.size w w' := by
 have q1 : -1000000000000000000 ≤ num.tdiv den ∧ num.tdiv den ≤ 1000000000000000000 := by
  have h := Int.natAbs_tdiv_le_natAbs num den
  omega
 have hB := Below.refl w.heap.size w
 obtain ⟨p1, p2⟩ := hp
 unfold nearB
 obtain ⟨q, hq⟩ : ∃ q, num.tdiv den = q := ⟨_, rfl⟩
 obtain ⟨r, hmd⟩ : ∃ r, num.tmod den = r := ⟨_, rfl⟩
 have hb0 : ¬ den = 0 := by omega
 have hdv : IntKind.i64.wrap (num.tdiv den) = q := by rw [IntKind.wrap_i64]; omega
 rw [hq, hmd]
 rw [hq] at q1
 obtain ⟨q2, q3⟩ := q1
 clear hq
 by_cases h1 : 0 < r
 ·rw [if_pos h1]
  by_cases e1 : p = q
  ·have e1' : (p == q) = true := by simp [e1]
   have g : Hid ((decide (p = q) || decide (p = q + 1)) = true) := Lib.hid (by simp [e1])
   clear e1
   go_enter Try.func32, Try.ntmps32
   go_wp2_with fail
   go_quiet (fail)
   replace hB := below_drewN hB nq
   generalize World.drewN _ nq = W1 at *
   go_wp2_with fail
   go_ret
   exact ⟨by rw [g.out]; rfl, hB⟩
  ·have e1' : (p == q) = false := by simp [e1]
   by_cases e2 : p = q + 1
   ·have e2' : (p == q + 1) = true := by simp [e2]
    have g : Hid ((decide (p = q) || decide (p = q + 1)) = true) := Lib.hid (by simp [e2])
    clear e1 e2
    go_enter Try.func32, Try.ntmps32
    go_wp2_with fail
    go_quiet (fail)
    replace hB := below_drewN hB nq
    generalize World.drewN _ nq = W1 at *
    go_wp2_with fail
    go_ret
    exact ⟨by rw [g.out]; rfl, hB⟩
   ·have e2' : (p == q + 1) = false := by simp [e2]
    have g : Hid ((decide (p = q) || decide (p = q + 1)) = false) := Lib.hid (by simp [e1, e2])
    clear e1 e2
    go_enter Try.func32, Try.ntmps32
    go_wp2_with fail
    go_quiet (fail)
    replace hB := below_drewN hB nq
    generalize World.drewN _ nq = W1 at *
    go_wp2_with fail
    go_ret
    exact ⟨by rw [g.out]; rfl, hB⟩
 ·rw [if_neg h1]
  have h1' : decide (0 < r) = false := decide_eq_false h1
  by_cases h2 : r < 0
  ·rw [if_pos h2]
   by_cases e1 : p = q
   ·have e1' : (p == q) = true := by simp [e1]
    have g : Hid ((decide (p = q) || decide (p = q - 1)) = true) := Lib.hid (by simp [e1])
    clear e1 h1
    go_enter Try.func32, Try.ntmps32
    go_wp2_with fail
    go_quiet (fail)
    replace hB := below_drewN hB nq
    generalize World.drewN _ nq = W1 at *
    go_wp2_with fail
    go_ret
    exact ⟨by rw [g.out]; rfl, hB⟩
   ·have e1' : (p == q) = false := by simp [e1]
    by_cases e2 : p = q - 1
    ·have e2' : (p == q - 1) = true := by simp [e2]
     have g : Hid ((decide (p = q) || decide (p = q - 1)) = true) := Lib.hid (by simp [e2])
     clear e1 e2 h1
     go_enter Try.func32, Try.ntmps32
     go_wp2_with fail
     go_quiet (fail)
     replace hB := below_drewN hB nq
     generalize World.drewN _ nq = W1 at *
     go_wp2_with fail
     go_ret
     exact ⟨by rw [g.out]; rfl, hB⟩
    ·have e2' : (p == q - 1) = false := by simp [e2]
     have g : Hid ((decide (p = q) || decide (p = q - 1)) = false) := Lib.hid (by simp [e1, e2])
     clear e1 e2 h1
     go_enter Try.func32, Try.ntmps32
     go_wp2_with fail
     go_quiet (fail)
     replace hB := below_drewN hB nq
     generalize World.drewN _ nq = W1 at *
     go_wp2_with fail
     go_ret
     exact ⟨by rw [g.out]; rfl, hB⟩
  ·rw [if_neg h2]
   have h2' : decide (r < 0) = false := decide_eq_false h2
   have g : Hid (decide (p = q) = (p == q)) := Lib.hid (by rw [Bool.eq_iff_iff]; simp)
   obtain ⟨bb, hbb⟩ : ∃ bb, (p == q) = bb := ⟨_, rfl⟩
   have HBB := Lib.hid hbb
   clear h1 h2
   go_enter Try.func32, Try.ntmps32
   go_wp2_with fail
   go_quiet (fail)
   replace hB := below_drewN hB nq
   generalize World.drewN _ nq = W1 at *
   go_wp2_with fail
   go_ret
   exact ⟨by rw [g.out, HBB.out]; rfl, hB⟩
/- the walks of Fair, by gen_fair.py -/
set_option maxRecDepth 20000 in
set_option maxHeartbeats 6400000 in
theorem fair_any (T : Int) (A B : Option Addr) (c d : Nat) (ws ps : List Int) (w : World) (hz : IntsAt .i64 w A ws) (hy : IntsAt .i64 w B ps) (hmax : ws.length ≤ 9223372036854775807) (_hmax2 : ps.length ≤ 9223372036854775807) (hbd : ∀ x ∈ ps, -9223372036854775808 ≤ x ∧ x ≤ 9223372036854775807) :
  Calls Try.prog 18 #[.int .i64 T, .slice A ws.length c, .slice B ps.length d] w fun e w' => e = .returned (.bool (fairB T ws ps)) ∧ Below w.heap.size w w' := by
 have hS := sumW_any T A c ws w hz hmax
 have hB := Below.refl w.heap.size w
 by_cases hE : wsE T ws = 0
 ·have hok := wsE_ok hE
  have hV : wsV T ws = ws.sum := by unfold wsV; rw [if_pos hE]
  rw [hV, hE] at hS
  by_cases hl : ps.length = ws.length
  ·have hF : fairB T ws ps = ((List.range ps.length).all (nearA T ws.sum ws ps) && decide (ps.sum = T)) := by unfold fairB; rw [decide_eq_true hE, decide_eq_true hl, Bool.true_and, Bool.true_and]
   obtain ⟨W, hW⟩ : ∃ W, ws.sum = W := ⟨_, rfl⟩
   rw [hW] at hS hF
   have hW0 : 0 < W := by rw [← hW]; exact hok.pos
   have hW1 : W ≤ 1000000000 := by rw [← hW]; exact hok.le
   obtain ⟨hT1, hT2⟩ := hok.amt
   have hl1 : ws.length ≤ 1000 := hok.len.2
   have hns := near_sum hok hW hl
   obtain ⟨n, hn⟩ : ∃ n, ws.length = n := ⟨_, rfl⟩
   rw [hn] at hS hl hl1 hmax ⊢
   rw [hl] at hF hns ⊢
   have HS := Lib.hid hS
   have HF := Lib.hid hF
   have HNS := Lib.hid hns
   have HL := Lib.hid hl
   have HN := Lib.hid hn
   have HZ := Lib.hid hz
   have HY := Lib.hid hy
   have HOK := Lib.hid hok
   have HBD := Lib.hid hbd
   have hnn : ((n : Int) == (n : Int)) = true := by simp
   clear hS hF hns hl hn hz hy hok hbd hV hE hW hmax
   go_enter Try.func18, Try.ntmps18
   go_wp2_with (go_at_call 28; refine HS.out.mono ?_; rintro e w1 ⟨rfl, hb⟩; replace hB := below_more hB hb; clear hb)
   go_loopg [9, 10, 11, 29] n (fun kx s9 s10 s11 s29 wr => ∃ (k : Nat) (S : Int), s9 = .int .i64 S ∧ s29 = .int .i64 k ∧ k ≤ n ∧ n - k ≤ kx ∧ S = (ps.take k).sum ∧ Hid (∀ i, i < k → nearA T W ws ps i = true) ∧ Below w.heap.size w wr)
   case atStart => exact ⟨0, 0, rfl, rfl, by omega, by omega, by simp, Lib.hid (fun i h => by omega), hB⟩
   case round =>
    clear hB
    obtain ⟨k, S, rfl, rfl, hk, hkx, hS, HA, hB⟩ := hrel
    obtain ⟨s1, s2⟩ := HNS.out k (by omega) HA.out
    rw [← hS] at s1 s2
    have HSS := Lib.hid hS
    clear hS
    by_cases hlt : k < n
    ·have hltz : (k : Int) < (n : Int) := by omega
     obtain ⟨b, off, rfl, hbw, hcs⟩ := HZ.out (by rw [HN.out]; omega)
     obtain ⟨b2, off2, rfl, hbw2, hcs2⟩ := HY.out (by rw [HL.out]; omega)
     have hc := (hB.cell (p := ⟨b, off + k, none⟩) hbw).trans (hcs k (by rw [HN.out]; exact hlt))
     have hc2 := (hB.cell (p := ⟨b2, off2 + k, none⟩) hbw2).trans (hcs2 k (by rw [HL.out]; exact hlt))
     have hxb := HOK.out.all (ws.getD k 0) (mem_getD (by rw [HN.out]; exact hlt))
     have hpb := HBD.out (ps.getD k 0) (mem_getD (by rw [HL.out]; exact hlt))
     have hnk : Hid (nearA T W ws ps k = nearB (ps.getD k 0) (T * ws.getD k 0) W) := Lib.hid rfl
     have hns1 := take_sum1 ps k (by rw [HL.out]; exact hlt)
     have hnb := fun h => nearB_bd (p := ps.getD k 0) (num := T * ws.getD k 0) (den := W) h
     generalize ws.getD k 0 = x at *
     generalize ps.getD k 0 = p at *
     have hm1 : -1000000000000000000 ≤ T * x ∧ T * x ≤ 1000000000000000000 := by
      have a1 : 1000000000000 * x ≤ 1000000000000 * 1000000 := Int.mul_le_mul_of_nonneg_left hxb.2 (by omega)
      have a2 : T * x ≤ 1000000000000 * x := Int.mul_le_mul_of_nonneg_right hT2 hxb.1
      have a3 : -1000000000000 * x ≤ T * x := Int.mul_le_mul_of_nonneg_right hT1 hxb.1
      rw [Int.neg_mul] at a3
      omega
     obtain ⟨P, hP⟩ : ∃ P, T * x = P := ⟨_, rfl⟩
     rw [hP] at hm1 hnk hnb
     obtain ⟨m1, m2⟩ := hm1
     obtain ⟨x1, x2⟩ := hxb
     obtain ⟨p1, p2⟩ := hpb
     have hdb : P.natAbs / W.natAbs ≤ 1000000000000000000 := by have := Nat.div_le_self P.natAbs W.natAbs; omega
     have HNB := Lib.hid hnb
     have HNS1 := Lib.hid hns1
     have hstep : Hid (∀ (_ : nearB p P W = true), (-1000000000000000001 ≤ p ∧ p ≤ 1000000000000000001) ∧ (∀ i, i < k + 1 → nearA T W ws ps i = true) ∧ S + p = (ps.take (k + 1)).sum ∧ -1000000000001000 ≤ S + p ∧ S + p ≤ 1000000000001000) := Lib.hid fun h => by
      have a1 := HNB.out h
      have a2 : ∀ i, i < k + 1 → nearA T W ws ps i = true := fun i hi => by
       by_cases e : i = k
       ·subst e; rw [hnk.out]; exact h
       ·exact HA.out i (by omega)
      have a3 := HNS.out (k + 1) (by omega) a2
      have a4 : S + p = (ps.take (k + 1)).sum := by rw [HNS1.out, ← HSS.out]
      refine ⟨by omega, a2, a4, by omega, by omega⟩
     have hbad : Hid (∀ (_ : nearB p P W = false), fairB T ws ps = false) := Lib.hid fun h => by
      rw [HF.out]
      have : (List.range n).all (nearA T W ws ps) = false := by
       rw [List.all_eq_false]
       exact ⟨k, List.mem_range.2 hlt, by rw [hnk.out, h]; simp⟩
      rw [this]; rfl
     clear hnb hns1 hcs hcs2 hdb
     have hin := fun w => isNear_any p P W w ⟨p1, p2⟩ ⟨m1, m2⟩ hW0
     cases hnB : nearB p P W
     ·rw [hnB] at hin
      have hf := Lib.hid (hbad.out hnB)
      have HI := Lib.hid hin
      clear hin hnB
      go_wp2_with (go_at_call 32; refine (HI.out _).mono ?_; rintro e w2 ⟨rfl, hb⟩; replace hB := below_more hB hb; clear hb)
      go_ret
      exact ⟨by rw [hf.out]; rfl, hB⟩
     ·rw [hnB] at hin
      obtain ⟨⟨q1, q2⟩, q3, q4, q5, q6⟩ := hstep.out hnB
      have HI := Lib.hid hin
      have Q3 := Lib.hid q3
      have Q4 := Lib.hid q4
      clear hin hnB q3 q4
      go_wp2_with (go_at_call 32; refine (HI.out _).mono ?_; rintro e w2 ⟨rfl, hb⟩; replace hB := below_more hB hb; clear hb)
      go_roundg (n - (k + 1))
      case measure => omega
      case rel => exact ⟨k + 1, S + p, rfl, by go_num, by omega, by omega, Q4.out, Q3, hB⟩
    ·have hkn : k = n := by omega
     have hltz : ¬ (k : Int) < (n : Int) := by omega
     have hall : Hid ((List.range n).all (nearA T W ws ps) = true) := Lib.hid (List.all_eq_true.2 fun i hi => HA.out i (by rw [hkn]; exact List.mem_range.1 hi))
     have hsum : ps.sum = S := by have := HSS.out; rw [List.take_of_length_le (by rw [HL.out]; omega)] at this; exact this.symm
     have hF2 : Hid (fairB T ws ps = (S == T)) := Lib.hid (by rw [HF.out, hall.out, hsum, Bool.true_and, Bool.eq_iff_iff]; simp)
     clear hsum
     go_wp2_with fail
     go_ret
     exact ⟨by rw [hF2.out]; rfl, hB⟩
  ·have hF : fairB T ws ps = false := by unfold fairB; rw [decide_eq_false hl, Bool.false_and, Bool.and_false]
   obtain ⟨n, hn⟩ : ∃ n, ws.length = n := ⟨_, rfl⟩
   obtain ⟨m, hm⟩ : ∃ m, ps.length = m := ⟨_, rfl⟩
   rw [hn] at hS hl ⊢
   rw [hm] at hl ⊢
   have hnn : ((m : Int) == (n : Int)) = false := by simp; omega
   generalize ws.sum = W at *
   have HS := Lib.hid hS
   have HF := Lib.hid hF
   clear hS hF hz hy hbd hV hE hok hn hm hl hmax
   go_enter Try.func18, Try.ntmps18
   go_wp2_with (go_at_call 28; refine HS.out.mono ?_; rintro e w1 ⟨rfl, hb⟩; replace hB := below_more hB hb; clear hb)
   go_ret
   exact ⟨by rw [HF.out]; rfl, hB⟩
 ·have hF : fairB T ws ps = false := by unfold fairB; rw [decide_eq_false hE]; rfl
  have hV : wsV T ws = 0 := by unfold wsV; rw [if_neg hE]
  rw [hV] at hS
  have hE2 : (wsE T ws == 0) = false := by simp [hE]
  generalize wsE T ws = E at *
  generalize ws.length = n at *
  generalize ps.length = m at *
  have HS := Lib.hid hS
  have HF := Lib.hid hF
  clear hS hF hz hy hbd hV hE
  go_enter Try.func18, Try.ntmps18
  go_wp2_with (go_at_call 28; refine HS.out.mono ?_; rintro e w1 ⟨rfl, hb⟩; replace hB := below_more hB hb; clear hb)
  go_ret
  exact ⟨by rw [HF.out]; rfl, hB⟩
set_option maxRecDepth 20000 in
set_option maxHeartbeats 6400000 in
theorem rfair_any (T : Int) (A B : Option Addr) (c d : Nat) (ws ps : List Int) (w : World) (hz : IntsAt .i64 w A ws) (hy : IntsAt .i64 w B ps) (hmax : ws.length ≤ 9223372036854775807) (_hmax2 : ps.length ≤ 9223372036854775807) (hbd : ∀ x ∈ ps, -9223372036854775808 ≤ x ∧ x ≤ 9223372036854775807) :
  Calls Try.prog 19 #[.int .i64 T, .slice A ws.length c, .slice B ps.length d] w fun e w' => e = .returned (.bool (fairB T ws ps)) ∧ Below w.heap.size w w' := by
 have hS := rcheck_any T A c ws w hz hmax
 have hB := Below.refl w.heap.size w
 by_cases hE : wsE T ws = 0
 ·have hok := wsE_ok hE
  have hV : wsV T ws = ws.sum := by unfold wsV; rw [if_pos hE]
  rw [hV, hE] at hS
  by_cases hl : ps.length = ws.length
  ·have hF : fairB T ws ps = ((List.range ps.length).all (nearA T ws.sum ws ps) && decide (ps.sum = T)) := by unfold fairB; rw [decide_eq_true hE, decide_eq_true hl, Bool.true_and, Bool.true_and]
   obtain ⟨W, hW⟩ : ∃ W, ws.sum = W := ⟨_, rfl⟩
   rw [hW] at hS hF
   have hW0 : 0 < W := by rw [← hW]; exact hok.pos
   have hW1 : W ≤ 1000000000 := by rw [← hW]; exact hok.le
   obtain ⟨hT1, hT2⟩ := hok.amt
   have hl1 : ws.length ≤ 1000 := hok.len.2
   have hns := near_sum hok hW hl
   obtain ⟨n, hn⟩ : ∃ n, ws.length = n := ⟨_, rfl⟩
   rw [hn] at hS hl hl1 hmax ⊢
   rw [hl] at hF hns ⊢
   have HS := Lib.hid hS
   have HF := Lib.hid hF
   have HNS := Lib.hid hns
   have HL := Lib.hid hl
   have HN := Lib.hid hn
   have HZ := Lib.hid hz
   have HY := Lib.hid hy
   have HOK := Lib.hid hok
   have HBD := Lib.hid hbd
   have hnn : ((n : Int) == (n : Int)) = true := by simp
   clear hS hF hns hl hn hz hy hok hbd hV hE hW hmax
   go_enter Try.func19, Try.ntmps19
   go_wp2_with (go_at_call 31; refine HS.out.mono ?_; rintro e w1 ⟨rfl, hb⟩; replace hB := below_more hB hb; clear hb)
   go_loopg [9, 10, 11, 12] n (fun kx s9 s10 s11 s12 wr => ∃ (k : Nat) (S : Int), s9 = .int .i64 (T - S) ∧ s10 = .int .i64 k ∧ k ≤ n ∧ n - k ≤ kx ∧ S = (ps.take k).sum ∧ Hid (∀ i, i < k → nearA T W ws ps i = true) ∧ Below w.heap.size w wr)
   case atStart => exact ⟨0, 0, by first | rfl | go_num, rfl, by omega, by omega, by simp, Lib.hid (fun i h => by omega), hB⟩
   case round =>
    clear hB
    obtain ⟨k, S, rfl, rfl, hk, hkx, hS, HA, hB⟩ := hrel
    obtain ⟨s1, s2⟩ := HNS.out k (by omega) HA.out
    rw [← hS] at s1 s2
    have HSS := Lib.hid hS
    clear hS
    by_cases hlt : k < n
    ·have hltz : (k : Int) < (n : Int) := by omega
     obtain ⟨b, off, rfl, hbw, hcs⟩ := HZ.out (by rw [HN.out]; omega)
     obtain ⟨b2, off2, rfl, hbw2, hcs2⟩ := HY.out (by rw [HL.out]; omega)
     have hc := (hB.cell (p := ⟨b, off + k, none⟩) hbw).trans (hcs k (by rw [HN.out]; exact hlt))
     have hc2 := (hB.cell (p := ⟨b2, off2 + k, none⟩) hbw2).trans (hcs2 k (by rw [HL.out]; exact hlt))
     have hxb := HOK.out.all (ws.getD k 0) (mem_getD (by rw [HN.out]; exact hlt))
     have hpb := HBD.out (ps.getD k 0) (mem_getD (by rw [HL.out]; exact hlt))
     have hnk : Hid (nearA T W ws ps k = nearB (ps.getD k 0) (T * ws.getD k 0) W) := Lib.hid rfl
     have hns1 := take_sum1 ps k (by rw [HL.out]; exact hlt)
     have hnb := fun h => nearB_bd (p := ps.getD k 0) (num := T * ws.getD k 0) (den := W) h
     generalize ws.getD k 0 = x at *
     generalize ps.getD k 0 = p at *
     have hm1 : -1000000000000000000 ≤ T * x ∧ T * x ≤ 1000000000000000000 := by
      have a1 : 1000000000000 * x ≤ 1000000000000 * 1000000 := Int.mul_le_mul_of_nonneg_left hxb.2 (by omega)
      have a2 : T * x ≤ 1000000000000 * x := Int.mul_le_mul_of_nonneg_right hT2 hxb.1
      have a3 : -1000000000000 * x ≤ T * x := Int.mul_le_mul_of_nonneg_right hT1 hxb.1
      rw [Int.neg_mul] at a3
      omega
     obtain ⟨P, hP⟩ : ∃ P, T * x = P := ⟨_, rfl⟩
     rw [hP] at hm1 hnk hnb
     obtain ⟨m1, m2⟩ := hm1
     obtain ⟨x1, x2⟩ := hxb
     obtain ⟨p1, p2⟩ := hpb
     have hdb : P.natAbs / W.natAbs ≤ 1000000000000000000 := by have := Nat.div_le_self P.natAbs W.natAbs; omega
     have HNB := Lib.hid hnb
     have HNS1 := Lib.hid hns1
     have hstep : Hid (∀ (_ : nearB p P W = true), (-1000000000000000001 ≤ p ∧ p ≤ 1000000000000000001) ∧ (∀ i, i < k + 1 → nearA T W ws ps i = true) ∧ S + p = (ps.take (k + 1)).sum ∧ -1000000000001000 ≤ S + p ∧ S + p ≤ 1000000000001000) := Lib.hid fun h => by
      have a1 := HNB.out h
      have a2 : ∀ i, i < k + 1 → nearA T W ws ps i = true := fun i hi => by
       by_cases e : i = k
       ·subst e; rw [hnk.out]; exact h
       ·exact HA.out i (by omega)
      have a3 := HNS.out (k + 1) (by omega) a2
      have a4 : S + p = (ps.take (k + 1)).sum := by rw [HNS1.out, ← HSS.out]
      refine ⟨by omega, a2, a4, by omega, by omega⟩
     have hbad : Hid (∀ (_ : nearB p P W = false), fairB T ws ps = false) := Lib.hid fun h => by
      rw [HF.out]
      have : (List.range n).all (nearA T W ws ps) = false := by
       rw [List.all_eq_false]
       exact ⟨k, List.mem_range.2 hlt, by rw [hnk.out, h]; simp⟩
      rw [this]; rfl
     clear hnb hns1 hcs hcs2 hdb
     have q9 : -1000000000000000000 ≤ P.tdiv W ∧ P.tdiv W ≤ 1000000000000000000 := by
      have h := Int.natAbs_tdiv_le_natAbs P W
      omega
     have hun : Hid (nearB p P W = if 0 < P.tmod W then decide (p = P.tdiv W) || decide (p = P.tdiv W + 1) else if P.tmod W < 0 then decide (p = P.tdiv W) || decide (p = P.tdiv W - 1) else decide (p = P.tdiv W)) := Lib.hid rfl
     obtain ⟨q, hq⟩ : ∃ q, P.tdiv W = q := ⟨_, rfl⟩
     obtain ⟨r, hmd⟩ : ∃ r, P.tmod W = r := ⟨_, rfl⟩
     have hb0 : ¬ W = 0 := by omega
     have hdv : IntKind.i64.wrap (P.tdiv W) = q := by rw [hq, IntKind.wrap_i64]; rw [hq] at q9; omega
     rw [hq, hmd] at hun
     rw [hq] at q9
     obtain ⟨q8, q7⟩ := q9
     clear hq
     by_cases h1 : 0 < r
     ·have h3 : decide (r < 0) = false := decide_eq_false (by omega)
      by_cases e1 : p = q
      ·have e1' : (p == q) = true := by simp [e1]
       have e1n : (p != q) = false := by simp [e1]
       have hnB : nearB p P W = true := by rw [hun.out]; simp [e1, h1]
       obtain ⟨⟨q1, q2⟩, q3, q4, q5, q6⟩ := hstep.out hnB
       have Q3 := Lib.hid q3
       have Q4 := Lib.hid q4
       clear hnB q3 q4
       go_wp2_with fail
       go_roundg (n - (k + 1))
       case measure => omega
       case rel => exact ⟨k + 1, S + p, by first | rfl | go_num | (congr 1; omega), by go_num, by omega, by omega, Q4.out, Q3, hB⟩
      ·have e1' : (p == q) = false := by simp [e1]
       have e1n : (p != q) = true := by simp [e1]
       by_cases e2 : p = q + 1
       ·have e2' : (p == q + 1) = true := by simp [e2]
        have e2n : (p != q + 1) = false := by simp [e2]
        have hnB : nearB p P W = true := by rw [hun.out]; simp [e2, h1]
        obtain ⟨⟨q1, q2⟩, q3, q4, q5, q6⟩ := hstep.out hnB
        have Q3 := Lib.hid q3
        have Q4 := Lib.hid q4
        clear hnB q3 q4
        go_wp2_with fail
        go_roundg (n - (k + 1))
        case measure => omega
        case rel => exact ⟨k + 1, S + p, by first | rfl | go_num | (congr 1; omega), by go_num, by omega, by omega, Q4.out, Q3, hB⟩
       ·have e2' : (p == q + 1) = false := by simp [e2]
        have e2n : (p != q + 1) = true := by simp [e2]
        have hnB : nearB p P W = false := by rw [hun.out]; simp [e1, e2, h1]
        have hf := Lib.hid (hbad.out hnB)
        clear hnB
        go_wp2_with fail
        go_ret
        exact ⟨by rw [hf.out]; rfl, hB⟩
     ·have h1' : decide (0 < r) = false := decide_eq_false h1
      by_cases h2 : r < 0
      ·by_cases e1 : p = q
       ·have e1' : (p == q) = true := by simp [e1]
        have e1n : (p != q) = false := by simp [e1]
        have hnB : nearB p P W = true := by rw [hun.out]; simp [e1, h1, h2]
        obtain ⟨⟨q1, q2⟩, q3, q4, q5, q6⟩ := hstep.out hnB
        have Q3 := Lib.hid q3
        have Q4 := Lib.hid q4
        clear hnB q3 q4 h1
        go_wp2_with fail
        go_roundg (n - (k + 1))
        case measure => omega
        case rel => exact ⟨k + 1, S + p, by first | rfl | go_num | (congr 1; omega), by go_num, by omega, by omega, Q4.out, Q3, hB⟩
       ·have e1' : (p == q) = false := by simp [e1]
        have e1n : (p != q) = true := by simp [e1]
        by_cases e2 : p = q - 1
        ·have e2' : (p == q - 1) = true := by simp [e2]
         have e2n : (p != q - 1) = false := by simp [e2]
         have hnB : nearB p P W = true := by rw [hun.out]; simp [e2, h1, h2]
         obtain ⟨⟨q1, q2⟩, q3, q4, q5, q6⟩ := hstep.out hnB
         have Q3 := Lib.hid q3
         have Q4 := Lib.hid q4
         clear hnB q3 q4 h1
         go_wp2_with fail
         go_roundg (n - (k + 1))
         case measure => omega
         case rel => exact ⟨k + 1, S + p, by first | rfl | go_num | (congr 1; omega), by go_num, by omega, by omega, Q4.out, Q3, hB⟩
        ·have e2' : (p == q - 1) = false := by simp [e2]
         have e2n : (p != q - 1) = true := by simp [e2]
         have hnB : nearB p P W = false := by rw [hun.out]; simp [e1, e2, h1, h2]
         have hf := Lib.hid (hbad.out hnB)
         clear hnB h1
         go_wp2_with fail
         go_ret
         exact ⟨by rw [hf.out]; rfl, hB⟩
      ·have h2' : decide (r < 0) = false := decide_eq_false h2
       by_cases e1 : p = q
       ·have e1' : (p == q) = true := by simp [e1]
        have e1n : (p != q) = false := by simp [e1]
        have hnB : nearB p P W = true := by rw [hun.out]; simp [e1, h1, h2]
        obtain ⟨⟨q1, q2⟩, q3, q4, q5, q6⟩ := hstep.out hnB
        have Q3 := Lib.hid q3
        have Q4 := Lib.hid q4
        clear hnB q3 q4 h1 h2
        go_wp2_with fail
        go_roundg (n - (k + 1))
        case measure => omega
        case rel => exact ⟨k + 1, S + p, by first | rfl | go_num | (congr 1; omega), by go_num, by omega, by omega, Q4.out, Q3, hB⟩
       ·have e1' : (p == q) = false := by simp [e1]
        have e1n : (p != q) = true := by simp [e1]
        have hnB : nearB p P W = false := by rw [hun.out]; simp [e1, h1, h2]
        have hf := Lib.hid (hbad.out hnB)
        clear hnB h1 h2
        go_wp2_with fail
        go_ret
        exact ⟨by rw [hf.out]; rfl, hB⟩
    ·have hkn : k = n := by omega
     have hltz : ¬ (k : Int) < (n : Int) := by omega
     have hall : Hid ((List.range n).all (nearA T W ws ps) = true) := Lib.hid (List.all_eq_true.2 fun i hi => HA.out i (by rw [hkn]; exact List.mem_range.1 hi))
     have hsum : ps.sum = S := by have := HSS.out; rw [List.take_of_length_le (by rw [HL.out]; omega)] at this; exact this.symm
     have hF2 : Hid (fairB T ws ps = (T - S == 0)) := Lib.hid (by rw [HF.out, hall.out, hsum, Bool.true_and, Bool.eq_iff_iff]; simp; omega)
     clear hsum
     go_wp2_with fail
     go_ret
     exact ⟨by rw [hF2.out]; rfl, hB⟩
  ·have hF : fairB T ws ps = false := by unfold fairB; rw [decide_eq_false hl, Bool.false_and, Bool.and_false]
   obtain ⟨n, hn⟩ : ∃ n, ws.length = n := ⟨_, rfl⟩
   obtain ⟨m, hm⟩ : ∃ m, ps.length = m := ⟨_, rfl⟩
   rw [hn] at hS hl ⊢
   rw [hm] at hl ⊢
   have hnn : ((m : Int) == (n : Int)) = false := by simp; omega
   generalize ws.sum = W at *
   have HS := Lib.hid hS
   have HF := Lib.hid hF
   clear hS hF hz hy hbd hV hE hok hn hm hl hmax
   go_enter Try.func19, Try.ntmps19
   go_wp2_with (go_at_call 31; refine HS.out.mono ?_; rintro e w1 ⟨rfl, hb⟩; replace hB := below_more hB hb; clear hb)
   go_ret
   exact ⟨by rw [HF.out]; rfl, hB⟩
 ·have hF : fairB T ws ps = false := by unfold fairB; rw [decide_eq_false hE]; rfl
  have hV : wsV T ws = 0 := by unfold wsV; rw [if_neg hE]
  rw [hV] at hS
  have hE2 : (wsE T ws == 0) = false := by simp [hE]
  generalize wsE T ws = E at *
  generalize ws.length = n at *
  generalize ps.length = m at *
  have HS := Lib.hid hS
  have HF := Lib.hid hF
  clear hS hF hz hy hbd hV hE
  go_enter Try.func19, Try.ntmps19
  go_wp2_with (go_at_call 31; refine HS.out.mono ?_; rintro e w1 ⟨rfl, hb⟩; replace hB := below_more hB hb; clear hb)
  go_ret
  exact ⟨by rw [HF.out]; rfl, hB⟩
theorem splitL_bd (T : Int) (ws : List Int) : ∀ x ∈ splitL T ws, -9223372036854775808 ≤ x ∧ x ≤ 9223372036854775807 := by
 unfold splitL
 by_cases hE : wsE T ws = 0
 ·rw [if_pos hE]
  have hok := wsE_ok hE
  have ha := hok.amt
  unfold partsL
  by_cases hn : T < 0
  ·rw [if_pos hn]
   intro x hx
   obtain ⟨y, hy, rfl⟩ := List.mem_map.1 hx
   have := partsP_bd (T := -T) (by omega) hok.neg rfl y hy
   omega
  ·rw [if_neg hn]
   intro x hx
   have := partsP_bd (by omega) hok rfl x hx
   omega
 ·rw [if_neg hE]; intro x hx; cases hx
theorem splitL_len {T : Int} {ws : List Int} (h : ws.length ≤ 9223372036854775807) : (splitL T ws).length ≤ 9223372036854775807 := by
 unfold splitL; split
 ·rw [partsL_len]; exact h
 ·simp
set_option maxRecDepth 20000 in
set_option maxHeartbeats 3200000 in
theorem alfair_short (T : Int) (A B : Option Addr) (c d : Nat) (ws ps : List Int) (w : World) (hz : IntsAt .i64 w A ws) (hy : IntsAt .i64 w B ps) (hl : ws.length ≤ 300) (hl2 : ps.length ≤ 300) (hbd : ∀ x ∈ ps, -9223372036854775808 ≤ x ∧ x ≤ 9223372036854775807) :
  Calls Try.prog 7 #[.int .i64 T, .slice A ws.length c, .slice B ps.length d] w fun e w' => e = .returned (.bool true) ∧ Below w.heap.size w w' := by
 have hs1 := fun w h => alSplit_any T A c ws w h (by omega)
 have hf1 := fun w h1 h2 => fair_any T A B c d ws ps w h1 h2 (by omega) (by omega) hbd
 have hf2 := fun w h1 h2 => rfair_any T A B c d ws ps w h1 h2 (by omega) (by omega) hbd
 have hll := splitL_len (T := T) (ws := ws) (by omega)
 have hg1 := fun B d w h1 h2 => fair_any T A B c d ws (splitL T ws) w h1 h2 (by omega) hll (splitL_bd T ws)
 have hg2 := fun B d w h1 h2 => rfair_any T A B c d ws (splitL T ws) w h1 h2 (by omega) hll (splitL_bd T ws)
 have hfs := split_fair (T := T) (ws := ws)
 obtain ⟨len, hlen⟩ : ∃ len, ws.length = len := ⟨_, rfl⟩
 obtain ⟨len2, hlen2⟩ : ∃ len2, ps.length = len2 := ⟨_, rfl⟩
 rw [hlen] at hl hs1 hf1 hf2 hg1 hg2 ⊢
 rw [hlen2] at hl2 hf1 hf2 ⊢
 have h3 : decide ((300 : Int) < (len : Int)) = false := decide_eq_false (by omega)
 have h4 : decide ((300 : Int) < (len2 : Int)) = false := decide_eq_false (by omega)
 have hbb : (fairB T ws ps == fairB T ws ps) = true := by simp
 generalize fairB T ws ps = fb at *
 have HZ := Lib.hid hz
 have HY := Lib.hid hy
 have hB := Below.refl w.heap.size w
 by_cases hE : wsE T ws = 0
 ·rw [hfs hE] at hg1 hg2
  rw [hE] at hs1
  generalize splitL T ws = L at *
  have HS1 := Lib.hid hs1
  have HF1 := Lib.hid hf1
  have HF2 := Lib.hid hf2
  have HG1 := Lib.hid hg1
  have HG2 := Lib.hid hg2
  clear hz hy hlen hlen2 hs1 hf1 hf2 hg1 hg2 hfs hE hll hbd hl hl2
  go_enter Try.func7, Try.ntmps7
  go_wp2_with (first
   | (go_at_call 11; refine (alAwake_any _).mono ?_; rintro e w1 ⟨rfl, hb⟩; replace hB := below_more hB hb; clear hb)
   | (go_at_call 16; refine (HS1.out _ (HZ.out.up hB)).mono ?_; rintro e w3 ⟨v3, rfl, ⟨A3, c3, rfl, hI3⟩, hb⟩; replace hB := below_more hB hb; clear hb; replace hI3 := Lib.hid hI3)
   | (go_at_call 18; first
     | ((with_reducible refine (HF1.out _ (HZ.out.up hB) (HY.out.up hB)).mono ?_); rintro e w4 ⟨rfl, hb⟩; replace hI3 := Lib.hid (hI3.out.up hb); replace hB := below_more hB hb; clear hb)
     | ((with_reducible refine (HG1.out _ _ _ (HZ.out.up hB) hI3.out).mono ?_); rintro e w4 ⟨rfl, hb⟩; replace hI3 := Lib.hid (hI3.out.up hb); replace hB := below_more hB hb; clear hb))
   | (go_at_call 19; first
     | ((with_reducible refine (HF2.out _ (HZ.out.up hB) (HY.out.up hB)).mono ?_); rintro e w4 ⟨rfl, hb⟩; replace hI3 := Lib.hid (hI3.out.up hb); replace hB := below_more hB hb; clear hb)
     | ((with_reducible refine (HG2.out _ _ _ (HZ.out.up hB) hI3.out).mono ?_); rintro e w4 ⟨rfl, hb⟩; replace hI3 := Lib.hid (hI3.out.up hb); replace hB := below_more hB hb; clear hb)))
  go_ret
  exact ⟨rfl, hB⟩
 ·have hE2 : (wsE T ws == 0) = false := by simp [hE]
  generalize splitL T ws = L at *
  generalize wsE T ws = E at *
  have HS1 := Lib.hid hs1
  have HF1 := Lib.hid hf1
  have HF2 := Lib.hid hf2
  have hE3 : (E != 0) = true := by simp [hE]
  clear hz hy hlen hlen2 hs1 hf1 hf2 hg1 hg2 hfs hE hll hbd hl hl2
  go_enter Try.func7, Try.ntmps7
  go_wp2_with (first
   | (go_at_call 11; refine (alAwake_any _).mono ?_; rintro e w1 ⟨rfl, hb⟩; replace hB := below_more hB hb; clear hb)
   | (go_at_call 16; refine (HS1.out _ (HZ.out.up hB)).mono ?_; rintro e w3 ⟨v3, rfl, ⟨A3, c3, rfl, hI3⟩, hb⟩; replace hB := below_more hB hb; clear hb; replace hI3 := Lib.hid hI3)
   | (go_at_call 18; refine (HF1.out _ (HZ.out.up hB) (HY.out.up hB)).mono ?_; rintro e w4 ⟨rfl, hb⟩; replace hB := below_more hB hb; clear hb)
   | (go_at_call 19; refine (HF2.out _ (HZ.out.up hB) (HY.out.up hB)).mono ?_; rintro e w4 ⟨rfl, hb⟩; replace hB := below_more hB hb; clear hb))
  go_ret
  exact ⟨rfl, hB⟩
set_option maxRecDepth 20000 in
set_option maxHeartbeats 3200000 in
theorem alfair_long (T : Int) (A B : Option Addr) (len c len2 d : Nat) (w : World) (hl : ¬ (len ≤ 300 ∧ len2 ≤ 300)) (hm : len ≤ 9223372036854775807) (hm2 : len2 ≤ 9223372036854775807) :
  Calls Try.prog 7 #[.int .i64 T, .slice A len c, .slice B len2 d] w fun e w' => e = .returned (.bool true) ∧ Below w.heap.size w w' := by
 have hB := Below.refl w.heap.size w
 by_cases h1 : len ≤ 300
 ·have h3 : decide ((300 : Int) < (len : Int)) = false := decide_eq_false (by omega)
  have h4 : (300 : Int) < (len2 : Int) := by omega
  go_enter Try.func7, Try.ntmps7
  go_wp2_with (go_at_call 11; refine (alAwake_any _).mono ?_; rintro e w1 ⟨rfl, hb⟩; replace hB := below_more hB hb; clear hb)
  go_ret
  exact ⟨rfl, hB⟩
 ·have h3 : (300 : Int) < (len : Int) := by omega
  go_enter Try.func7, Try.ntmps7
  go_wp2_with (go_at_call 11; refine (alAwake_any _).mono ?_; rintro e w1 ⟨rfl, hb⟩; replace hB := below_more hB hb; clear hb)
  go_ret
  exact ⟨rfl, hB⟩
theorem law_alfair (T : Int) (A : Option Addr) (len c : Nat) (ws : List Int) (B : Option Addr) (len2 d : Nat) (ps : List Int) (w : World) (hwf : ∀ x ∈ ps, (Lit.int .i64 x).wf = true) (hlen : ws.length = len) (hmax : len ≤ 9223372036854775807) (hz : IntsAt .i64 w A ws) (hlen2 : ps.length = len2) (hmax2 : len2 ≤ 9223372036854775807) (hy : IntsAt .i64 w B ps) :
  Calls Try.prog 7 #[.int .i64 T, .slice A len c, .slice B len2 d] w fun e w' => e = .returned (.bool true) ∧ Below w.heap.size w w' := by
 by_cases h : len ≤ 300 ∧ len2 ≤ 300
 ·subst hlen; subst hlen2; exact alfair_short T A B c d ws ps w hz hy h.1 h.2 fun x hx => bounds_i64 (hwf x hx)
 ·exact alfair_long T A B len c len2 d w h hmax hmax2
open Go.ChangeShapes Go.WideShapes Go.ChangeAt Go.WideMaps Go.WideElems Go.RowKit
theorem open_islice {H : Type} {enc : TypeId × Value → H} {P : Program} {W : World} {b0 : Nat} {T E : TypeId} {k : IntKind} {v : Value} {d : DataW H} {p : List MemPlace} (hT : P.underlying T = some (.slice E)) (hE : P.underlying E = some (.int k)) (hc : P.cellsOf E = 1)
  (hval : Value.okWide P W .any b0 T v) (h : DataW.Trod enc P W 0 (fun _ => true) true T v d p) :
  ∃ A len cap zs, v = .slice A len cap ∧ zs.length = len ∧ len ≤ 9223372036854775807 ∧ IntsAt k W A zs ∧ ∀ x ∈ zs, (Lit.int k x).wf = true := by
 obtain ⟨a0, len, cap, rfl⟩ := okWide_slice hT hval
 obtain ⟨fuel, hf⟩ := h
 rcases open_ints hT hE hc hf with ⟨hcs, hx⟩ | ⟨a, len', cap', zs, hcs, _, hl, hm, hz, hx, hcell, hwz⟩
 ·simp [Value.cells] at hcs
  obtain ⟨rfl, rfl, rfl⟩ := hcs
  exact ⟨none, 0, 0, [], rfl, rfl, by omega, IntsAt.nil, by simp⟩
 ·simp [Value.cells] at hcs
  obtain ⟨rfl, rfl, rfl⟩ := hcs
  simp only [if_true] at hz
  unfold maxLen at hm
  have hle : (zs.take len).length = len := by rw [List.length_take, hz]; omega
  refine ⟨_, len, cap, zs.take len, rfl, hle, by omega, fun h0 => ?_, fun x hx => hwz x (List.mem_of_mem_take hx)⟩
  have hl0 : 0 < len := by omega
  obtain ⟨b, off, spot⟩ := a
  have hspot : spot = none := by simpa [Addr.add] using World.cell?_spot (hcell 0 (by omega))
  subst hspot
  have hlt : b < W.heap.size := by
   have h9 := hcell 0 (by omega)
   rcases Nat.lt_or_ge b W.heap.size with hlt | hge
   ·exact hlt
   ·unfold World.cell? at h9
    rw [show (Addr.add ⟨b, off, none⟩ 0).block = b from by rw [block_add], Array.getElem?_eq_none hge] at h9
    simp at h9
  refine ⟨b, off, rfl, hlt, fun i hi => ?_⟩
  rw [hle] at hi
  have h1 := hcell i (by omega)
  rw [add_plain] at h1
  rw [h1, List.getD_eq_getElem?_getD, List.getD_eq_getElem?_getD, List.getElem?_take, if_pos hi]
end Go.Proofs.Ytocojbkhdijjeaa
