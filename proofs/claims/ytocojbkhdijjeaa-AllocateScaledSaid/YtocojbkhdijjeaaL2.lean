/- Contracts of the functions that the statements reach, part 2: what was proved of each, callees first. -/
import Derived.Deep.CutRange
import Derived.OpenShut
import Derived.Deep.RegionHeldLaw
import Derived.Deep.AppendLies
import Derived.Handed
import Derived.ProofKit
import Derived.ChangeSlices
import Derived.Carry
import Derived.ChangeSame
import Derived.Test.YtocojbkhdijjeaaL1
namespace Go.Proofs.Ytocojbkhdijjeaa
open Go.RowKit
theorem all_false_at {p : Int → Bool} {l : List Int} {k : Nat} (hk : k < l.length) (h : p (l.getD k 0) = false) : l.all p = false := by
 rw [List.all_eq_false]
 exact ⟨_, mem_getD hk, by rw [h]; simp⟩
theorem take_all1 {p : Int → Bool} (zs : List Int) (k : Nat) (h : k < zs.length) : (zs.take (k + 1)).all p = ((zs.take k).all p && p (zs.getD k 0)) := by
 rw [List.take_succ_eq_append_getElem h, List.all_append, List.getD_eq_getElem?_getD, List.getElem?_eq_getElem h]
 simp
set_option maxRecDepth 20000 in
set_option maxHeartbeats 3200000 in
theorem sumW_any (T : Int) (A : Option Addr) (c : Nat) (ws : List Int) (w : World) (hz : IntsAt .i64 w A ws) (hmax : ws.length ≤ 9223372036854775807) :
  Calls Try.prog 28 #[.int .i64 T, .slice A ws.length c] w fun e w' => e = .returned (.tuple #[.int .i64 (wsV T ws), .int .i64 (wsE T ws)]) ∧ Below w.heap.size w w' := by
 have hV := fun w => mvalid_any T w
 have hB := Below.refl w.heap.size w
 cases h0 : amtB T
 ·have e1 : wsE T ws = 1 := by unfold wsE; rw [h0]; rfl
  have e2 : wsV T ws = 0 := by unfold wsV; rw [e1]; rfl
  rw [e1, e2]
  rw [h0] at hV
  have HV := Lib.hid hV
  clear hV hz e1 e2
  go_enter Try.func28, Try.ntmps28
  go_wp2_with (go_at_call 26; refine (HV.out _).mono ?_; rintro e w' ⟨rfl, rfl⟩)
  go_ret2
  exact ⟨rfl, hB⟩
 ·rw [h0] at hV
  have HV := Lib.hid hV
  clear hV
  by_cases hlo : ws.length < 1
  ·have e1 : wsE T ws = 1 := by unfold wsE; rw [h0, decide_eq_false (show ¬ 1 ≤ ws.length by omega)]; rfl
   have e2 : wsV T ws = 0 := by unfold wsV; rw [e1]; rfl
   rw [e1, e2]
   have hl : ws.length = 0 := by omega
   rw [hl]
   clear e1 e2 hz hlo hl hmax
   go_enter Try.func28, Try.ntmps28
   go_wp2_with (go_at_call 26; refine (HV.out _).mono ?_; rintro e w' ⟨rfl, rfl⟩)
   go_ret2
   exact ⟨rfl, hB⟩
  ·by_cases hhi : 1000 < ws.length
   ·have e1 : wsE T ws = 1 := by unfold wsE; rw [h0, decide_eq_false (show ¬ ws.length ≤ 1000 by omega), Bool.and_false]; rfl
    have e2 : wsV T ws = 0 := by unfold wsV; rw [e1]; rfl
    rw [e1, e2]
    generalize ws.length = len at *
    have hd1 : decide ((len : Int) < 1) = false := decide_eq_false (by omega)
    have hd2 : (1000 : Int) < (len : Int) := by omega
    clear e1 e2 hz hlo hhi
    go_enter Try.func28, Try.ntmps28
    go_wp2_with (go_at_call 26; refine (HV.out _).mono ?_; rintro e w' ⟨rfl, rfl⟩)
    go_ret2
    exact ⟨rfl, hB⟩
   ·have hE : wsE T ws = if ws.all wgB = true then if ws.sum = 0 then 10 else 0 else 1 := by unfold wsE; rw [h0, decide_eq_true (show 1 ≤ ws.length by omega), decide_eq_true (show ws.length ≤ 1000 by omega)]; rfl
    obtain ⟨len, hlen⟩ : ∃ len, ws.length = len := ⟨_, rfl⟩
    rw [hlen] at hlo hhi hmax ⊢
    have HL := Lib.hid hlen
    have HZ := Lib.hid hz
    have HE := Lib.hid hE
    have hd1 : decide ((len : Int) < 1) = false := decide_eq_false (by omega)
    have hd2 : decide ((1000 : Int) < (len : Int)) = false := decide_eq_false (by omega)
    clear hlen hz hE hmax
    go_enter Try.func28, Try.ntmps28
    go_wp2_with (go_at_call 26; refine (HV.out _).mono ?_; rintro e w' ⟨rfl, rfl⟩)
    go_loopg [6, 8, 24] len (fun kx s6 s8 s24 wr => ∃ (k : Nat) (S : Int), s6 = .int .i64 S ∧ s24 = .int .i64 k ∧ k ≤ len ∧ len - k ≤ kx ∧ 0 ≤ S ∧ S ≤ (k : Int) * 1000000 ∧ Hid (S = (ws.take k).sum) ∧ Hid ((ws.take k).all wgB = true) ∧ wr = w)
    case atStart => exact ⟨0, 0, rfl, rfl, by omega, by omega, by omega, by omega, Lib.hid (by simp), Lib.hid (by simp), rfl⟩
    case round =>
     obtain ⟨k, S, rfl, rfl, hk, hkx, hS0, hS1, HS, HA, rfl⟩ := hrel
     by_cases hlt : k < len
     ·have hltz : (k : Int) < (len : Int) := by omega
      obtain ⟨b, off, rfl, hbw, hcs⟩ := HZ.out (by rw [HL.out]; omega)
      have hc := hcs k (by rw [HL.out]; exact hlt)
      obtain ⟨x, hx⟩ : ∃ x, ws.getD k 0 = x := ⟨_, rfl⟩
      rw [hx] at hc
      have HX := Lib.hid hx
      clear hx hcs
      cases hok : wgB x
      ·have hno : Hid (ws.all wgB = false) := Lib.hid (all_false_at (by rw [HL.out]; exact hlt) (by rw [HX.out]; exact hok))
       have e1 : Hid (wsE T ws = 1) := Lib.hid (by rw [HE.out, hno.out]; rfl)
       have e2 : Hid (wsV T ws = 0) := Lib.hid (by unfold wsV; rw [e1.out]; rfl)
       rcases wgB_no hok with h1 | h1
       ·clear hok
        go_wp2_with fail
        go_ret2
        exact ⟨by rw [e1.out, e2.out]; rfl, hB⟩
       ·have h2 : decide (x < 0) = false := decide_eq_false (by omega)
        clear hok
        go_wp2_with fail
        go_ret2
        exact ⟨by rw [e1.out, e2.out]; rfl, hB⟩
      ·obtain ⟨x1, x2⟩ := wgB_is hok
       have HA2 : Hid ((ws.take (k + 1)).all wgB = true) := Lib.hid (by rw [take_all1 ws k (by rw [HL.out]; exact hlt), HA.out, HX.out, hok]; rfl)
       have HS2 : Hid (S + x = (ws.take (k + 1)).sum) := Lib.hid (by rw [take_sum1 ws k (by rw [HL.out]; exact hlt), HS.out, HX.out])
       have h2 : decide (x < 0) = false := decide_eq_false (by omega)
       have h3 : decide (1000000 < x) = false := decide_eq_false (by omega)
       clear hok
       go_wp2_with fail
       go_roundg (len - (k + 1))
       case measure => omega
       case rel => exact ⟨k + 1, S + x, rfl, by go_num, by omega, by omega, by omega, by omega, HS2, HA2, rfl⟩
     ·have hkl : k = len := by omega
      have hltz : ¬ (k : Int) < (len : Int) := by omega
      have hall : ws.all wgB = true := by have := HA.out; rwa [List.take_of_length_le (by rw [HL.out]; omega)] at this
      have hsum : ws.sum = S := by have := HS.out; rw [List.take_of_length_le (by rw [HL.out]; omega)] at this; exact this.symm
      have hE2 : Hid (wsE T ws = if S = 0 then 10 else 0) := Lib.hid (by rw [HE.out, if_pos hall, hsum])
      have hV2 : Hid (wsV T ws = if wsE T ws = 0 then S else 0) := Lib.hid (by unfold wsV; rw [hsum])
      clear hall hsum
      by_cases hs0 : S = 0
      ·have hs1 : (S == 0) = true := by simp [hs0]
       have e1 : Hid (wsE T ws = 10) := Lib.hid (by rw [hE2.out, if_pos hs0])
       have e2 : Hid (wsV T ws = 0) := Lib.hid (by rw [hV2.out, e1.out]; rfl)
       clear hE2 hV2
       go_wp2_with fail
       go_ret2
       exact ⟨by rw [e1.out, e2.out]; rfl, hB⟩
      ·have hs1 : (S == 0) = false := by simp [hs0]
       have e1 : Hid (wsE T ws = 0) := Lib.hid (by rw [hE2.out, if_neg hs0])
       have e2 : Hid (wsV T ws = S) := Lib.hid (by rw [hV2.out, e1.out]; rfl)
       clear hE2 hV2
       go_wp2_with fail
       go_ret2
       exact ⟨by rw [e1.out, e2.out]; rfl, hB⟩
set_option maxRecDepth 20000 in
set_option maxHeartbeats 3200000 in
theorem negated_any (A : Option Addr) (c : Nat) (zs : List Int) (w : World) (hz : IntsAt .i64 w A zs) (hl : zs.length ≤ 1000) (hb : ∀ x ∈ zs, -9223372036854775807 ≤ x ∧ x ≤ 9223372036854775807) :
  Calls Try.prog 29 #[.slice A zs.length c] w fun e w' => ∃ g : Nat, e = .returned (.slice (some ⟨g, 0, none⟩) zs.length zs.length) ∧ Below w.heap.size w w' ∧ IB w' g (zs.map fun x => -x) := by
 obtain ⟨len, hlen⟩ : ∃ len, zs.length = len := ⟨_, rfl⟩
 rw [hlen] at hl ⊢
 have HL := Lib.hid hlen
 have HZ := Lib.hid hz
 have HB := Lib.hid hb
 clear hlen hz hb
 obtain ⟨i0, hi, hz0, hz1, hz2⟩ := info_parts infoI_int
 go_enter Try.func29, Try.ntmps29
 go_wp2_with (at_make; refine wpList_make_zeros _ rfl (.tmp 7) (.tmp 7) 22 rfl 3 .i64 i0 8 Try.underlying22 hi hz0 hz1 hz2 .i64 .i64 _ _ len rfl rfl rfl rfl (by omega) (by omega) ?_; intro w1 hb1 hB1 hs1)
 have I1 : Hid (IB w1 w.heap.size (fillI (zs.map fun x => -x) 0)) := Lib.hid (by rw [fillI_zero, List.length_map, HL.out]; exact IB.zeros hb1.out)
 clear hb1 hs1
 obtain ⟨g, hg⟩ : ∃ g, w.heap.size = g := ⟨_, rfl⟩
 rw [hg] at I1 hB1 ⊢
 go_loopg [4, 5, 11] len (fun kx s4 s5 s11 wr => ∃ k : Nat, s11 = .int .i64 k ∧ k ≤ len ∧ len - k ≤ kx ∧ Hid (IB wr g (fillI (zs.map fun x => -x) k)) ∧ Below g w wr)
 case atStart => exact ⟨0, rfl, by omega, by omega, I1, hB1⟩
 case round =>
  clear I1 hB1
  obtain ⟨k, rfl, hk, hkx, I1, hB1⟩ := hrel
  have hlm : Hid ((zs.map fun x => -x).length = len) := Lib.hid (by rw [List.length_map]; exact HL.out)
  by_cases hlt : k < len
  ·have hltz : (k : Int) < (len : Int) := by omega
   obtain ⟨b, off, rfl, hbw, hcs⟩ := HZ.out (by rw [HL.out]; omega)
   have hc := (hB1.cell (p := ⟨b, off + k, none⟩) (by show b < g; omega)).trans (hcs k (by rw [HL.out]; exact hlt))
   obtain ⟨x, hx⟩ : ∃ x, zs.getD k 0 = x := ⟨_, rfl⟩
   have hxb := HB.out x (by rw [← hx]; exact mem_getD (by rw [HL.out]; exact hlt))
   obtain ⟨x1, x2⟩ := hxb
   rw [hx] at hc
   have HX : Hid ((zs.map fun x => -x).getD k 0 = -x) := Lib.hid (by
    rw [List.getD_eq_getElem?_getD, List.getElem?_map, ← hx, List.getD_eq_getElem?_getD, List.getElem?_eq_getElem (show k < zs.length by rw [HL.out]; exact hlt)]; rfl)
   have c2 := I1.out.cell k (by rw [fillI_len (by rw [hlm.out]; omega), hlm.out]; exact hlt)
   have f2 := I1.out.frozen k
   have I2 : Hid (IB (wr.setCell ⟨g, k, none⟩ (.int .i64 (-x))) g (fillI (zs.map fun x => -x) (k + 1))) := Lib.hid (by
    have h := I1.out.set k (-x)
    rw [← HX.out, fillI_next (by rw [hlm.out]; exact hlt), HX.out] at h
    exact h)
   have hB2 : Below g w (wr.setCell ⟨g, k, none⟩ (.int .i64 (-x))) := Below.setCell (p := ⟨g, k, none⟩) hB1 (Nat.le_refl _) _
   clear hx hcs
   go_wp2_with fail
   go_roundg (len - (k + 1))
   case measure => omega
   case rel => exact ⟨k + 1, by go_num, by omega, by omega, I2, hB2⟩
  ·have hkl : k = len := by omega
   have hltz : ¬ (k : Int) < (len : Int) := by omega
   have I2 : Hid (IB wr g (zs.map fun x => -x)) := Lib.hid (by have h := I1.out; rwa [fillI_all (by rw [hlm.out]; omega)] at h)
   go_wp2_with fail
   go_ret
   exact ⟨g, rfl, hB1, I2.out⟩
set_option maxRecDepth 20000 in
set_option maxHeartbeats 3200000 in
theorem largest_any (T W : Int) (A : Option Addr) (c : Nat) (ws : List Int) (w : World) (hz : IntsAt .i64 w A ws) (hT : 0 ≤ T ∧ T ≤ 1000000000000) (hok : WsOk T ws) (hW : ws.sum = W) :
  Calls Try.prog 30 #[.int .i64 T, .slice A ws.length c, .int .i64 W] w fun e w' => ∃ g : Nat, e = .returned (.slice (some ⟨g, 0, none⟩) ws.length ws.length) ∧ Below w.heap.size w w' ∧ IB w' g (partsP T W ws) := by
 obtain ⟨hl0, hl1⟩ := hok.len
 have hW0 : 0 < W := by rw [← hW]; exact hok.pos
 have hW1 : W ≤ 1000000000 := by rw [← hW]; exact hok.le
 obtain ⟨hT0, hT1⟩ := hT
 obtain ⟨n, hlen⟩ : ∃ n, ws.length = n := ⟨_, rfl⟩
 obtain ⟨b, off, rfl, hbw, hcs⟩ := hz hl0
 rw [hlen] at hl0 hl1 hcs ⊢
 have HL := Lib.hid hlen
 have HCS := Lib.hid hcs
 have HOK := Lib.hid hok
 have HW := Lib.hid hW
 clear hz hok hW hlen hcs
 obtain ⟨i0, hi, hz0, hz1, hz2⟩ := info_parts infoI_int
 have hmk : ∀ V : World, (Instr.makeSlice 22 (.int .i64 (n : Int)) (.int .i64 (n : Int))).run Try.prog V = .ok (.slice (some ⟨V.heap.size, 0, none⟩) n n) (V.alloc (.cells (Array.replicate n (.int .i64 0)) 3)) := fun V => by
  have h := run_makeSlice (P := Try.prog) V 22 3 i0 (.int .i64 0) Try.underlying22 hi hz0 .i64 .i64 (n : Int) (n : Int) (by omega) (by omega) (by rw [hz1]; omega) (by rw [hz2]; omega) (by omega)
  rw [h, hz1, Int.toNat_natCast]
  have e : madeCells (Value.int .i64 0).cells (n * 1) = Array.replicate n (.int .i64 0) := by
   apply Array.ext
   ·simp [madeCells]
   ·intro j h1 h2; simp [madeCells, Value.cells, Nat.mod_one]
  rw [e]
 obtain ⟨s0, hs0⟩ : ∃ s0, w.heap.size = s0 := ⟨_, rfl⟩
 obtain ⟨W2, hW2⟩ : ∃ W2, ((w.alloc (.cells (Array.replicate n (.int .i64 0)) 3)).alloc (.cells (Array.replicate n (.int .i64 0)) 3)).drew = W2 := ⟨_, rfl⟩
 have hA : IB W2 s0 (List.replicate n 0) := by
  rw [← hW2, ← hs0]
  exact ((IB.mk ⟨3, by rw [heap_alloc_new]; simp⟩).alloc _).drew
 have hA2 : IB W2 (s0 + 1) (List.replicate n 0) := by
  have h : IB ((w.alloc (.cells (Array.replicate n (.int .i64 0)) 3)).alloc (.cells (Array.replicate n (.int .i64 0)) 3)) (w.alloc (.cells (Array.replicate n (.int .i64 0)) 3)).heap.size (List.replicate n 0) := IB.mk ⟨3, by rw [heap_alloc_new]; simp⟩
  rw [← hW2, ← hs0]
  have e : (w.alloc (.cells (Array.replicate n (.int .i64 0)) 3)).heap.size = w.heap.size + 1 := by simp
  rw [e] at h
  exact h.drew
 have hB2 : Below s0 w W2 := by
  rw [← hW2, ← hs0]
  exact dc_drew (((Below.refl _ w).alloc (Nat.le_refl _) _).alloc (by simp) _)
 have HA := Lib.hid hA
 have HA2 := Lib.hid hA2
 have HW2 := Lib.hid hW2
 have HS0 := Lib.hid hs0
 clear hA hA2 hW2
 obtain ⟨Q, hQ⟩ : ∃ Q, quoL T W ws = Q := ⟨_, rfl⟩
 obtain ⟨R, hRR⟩ : ∃ R, remL T W ws = R := ⟨_, rfl⟩
 have HQ := Lib.hid hQ
 have HRR := Lib.hid hRR
 have HQL : Hid (Q.length = n) := Lib.hid (by rw [← hQ]; simp [quoL]; exact HL.out)
 have HRL : Hid (R.length = n) := Lib.hid (by rw [← hRR]; simp [remL]; exact HL.out)
 clear hQ hRR
 go_enter Try.func30, Try.ntmps30
 go_upto_region 1 with fail
 go_cut [7, 8] from 14 to 19 (fun v7 v8 wx => ∃ g1 g2 : Nat, v7 = .slice (some ⟨g1, 0, none⟩) n n ∧ v8 = .slice (some ⟨g2, 0, none⟩) n n ∧ g1 ≠ g2 ∧ s0 ≤ g1 ∧ s0 ≤ g2 ∧ Hid (IB wx g1 (fillI Q 0)) ∧ Hid (IB wx g2 (fillI R 0)) ∧ Below s0 w wx)
 case first =>
  go_region
  all_goals
   go_wp2_with fail
   go_meet
   rw [fillI_zero, fillI_zero, HQL.out, HRL.out, HW2.out]
   first
    | exact ⟨s0, s0 + 1, rfl, rfl, by omega, by omega, by omega, HA, HA2, hB2⟩
    | exact ⟨s0 + 1, s0, rfl, rfl, by omega, by omega, by omega, HA2, HA, hB2⟩
 case rest =>
 clear hB2 HA HA2 HW2 hs0
 obtain ⟨g1, g2, rfl, rfl, hg12, hg1, hg2, I1, I2, hB⟩ := hcut
 have hbs : b < s0 := by have := HS0.out; omega
 go_wp2_with fail
 go_loopg [9, 10, 11, 23] n (fun kx s9 s10 s11 s23 wr => ∃ (k : Nat) (l : Int), s9 = .int .i64 l ∧ s23 = .int .i64 k ∧ k ≤ n ∧ n - k ≤ kx ∧ Hid (l = T - (Q.take k).sum) ∧ 0 ≤ l ∧ l ≤ T ∧ Hid (IB wr g1 (fillI Q k)) ∧ Hid (IB wr g2 (fillI R k)) ∧ Below s0 w wr)
 case atStart => exact ⟨0, T, rfl, rfl, by omega, by omega, Lib.hid (by simp), by omega, by omega, I1, I2, hB⟩
 case round =>
  clear I1 I2 hB
  obtain ⟨k, l, rfl, rfl, hk, hkx, HLE, hl2, hl3, I1, I2, hB⟩ := hrel
  by_cases hlt : k < n
  ·have hltz : (k : Int) < (n : Int) := by omega
   have hc := (hB.cell (p := ⟨b, off + k, none⟩) hbs).trans (HCS.out k hlt)
   obtain ⟨x, hx⟩ : ∃ x, ws.getD k 0 = x := ⟨_, rfl⟩
   have hxb := HOK.out.all x (by rw [← hx]; exact mem_getD (by rw [HL.out]; exact hlt))
   rw [hx] at hc
   obtain ⟨P, q, r, e1, e2, e3, e4, e5, p1, p2, q1, q2, r1, r2⟩ := quo_one (T := T) (W := W) ⟨hT0, hT1⟩ hW0 hxb
   have hq : Hid (Q.getD k 0 = q) := Lib.hid (by rw [← HQ.out, quoL_at (by rw [HL.out]; exact hlt), hx, e1, e2])
   have hr : Hid (R.getD k 0 = r) := Lib.hid (by rw [← HRR.out, remL_at (by rw [HL.out]; exact hlt), hx, e1, e3])
   have hW9 : ¬ W = 0 := by omega
   have hdv : IntKind.i64.wrap (P.tdiv W) = q := by rw [e4, IntKind.wrap_i64]; omega
   have c1 := I1.out.cell k (by rw [fillI_len (by rw [HQL.out]; omega), HQL.out]; exact hlt)
   have f1 := I1.out.frozen k
   have c2 := I2.out.cell k (by rw [fillI_len (by rw [HRL.out]; omega), HRL.out]; exact hlt)
   have f2 := I2.out.frozen k
   have hlk := left_k (T := T) (W := W) hT0 hW0 (fun y hy => (HOK.out.all y hy).1) HW.out (k + 1)
   rw [HQ.out, take_sum1 Q k (by rw [HQL.out]; exact hlt), hq.out] at hlk
   have hlk1 : 0 ≤ l - q := by have := HLE.out; omega
   have hlk2 : l - q ≤ T := by have := HLE.out; omega
   have HLE2 : Hid (l - q = T - (Q.take (k + 1)).sum) := Lib.hid (by rw [take_sum1 Q k (by rw [HQL.out]; exact hlt), hq.out]; have := HLE.out; omega)
   have I3 : IB ((wr.setCell ⟨g1, k, none⟩ (.int .i64 q)).setCell ⟨g2, k, none⟩ (.int .i64 r)) g1 (fillI Q (k + 1)) := by
    have h := I1.out.set k q
    rw [← hq.out, fillI_next (by rw [HQL.out]; exact hlt), hq.out] at h
    exact h.far hg12 _ _
   have I4 : IB ((wr.setCell ⟨g1, k, none⟩ (.int .i64 q)).setCell ⟨g2, k, none⟩ (.int .i64 r)) g2 (fillI R (k + 1)) := by
    have h := (I2.out.far (Ne.symm hg12) k (.int .i64 q)).set k r
    rw [← hr.out, fillI_next (by rw [HRL.out]; exact hlt), hr.out] at h
    exact h
   have hB4 : Below s0 w ((wr.setCell ⟨g1, k, none⟩ (.int .i64 q)).setCell ⟨g2, k, none⟩ (.int .i64 r)) := Below.setCell (p := ⟨g2, k, none⟩) (Below.setCell (p := ⟨g1, k, none⟩) hB hg1 _) hg2 _
   have c3 : (wr.setCell ⟨g1, k, none⟩ (.int .i64 q)).cell? ⟨g2, k, none⟩ = some (.int .i64 ((fillI R k).getD k 0)) := (World.cell?_setCell_other _ _ _ _ (by intro e; simp only [Addr.mk.injEq] at e; omega)).trans c2
   have c5 := I3.cell k (by rw [fillI_len (by rw [HQL.out]; omega), HQL.out]; exact hlt)
   have hfq : (fillI Q (k + 1)).getD k 0 = q := by
    rw [← fillI_next (by rw [HQL.out]; exact hlt), List.getD_eq_getElem?_getD, List.getElem?_set, if_pos rfl, if_pos (by rw [fillI_len (by rw [HQL.out]; omega), HQL.out]; exact hlt), hq.out]; rfl
   rw [hfq] at c5
   obtain ⟨u1, hu1⟩ : ∃ u, (fillI Q k).getD k 0 = u := ⟨_, rfl⟩
   obtain ⟨u2, hu2⟩ : ∃ u, (fillI R k).getD k 0 = u := ⟨_, rfl⟩
   rw [hu1] at c1
   rw [hu2] at c2 c3
   obtain ⟨W5, hW5⟩ : ∃ W5, ((wr.setCell ⟨g1, k, none⟩ (.int .i64 q)).setCell ⟨g2, k, none⟩ (.int .i64 r)).drew = W5 := ⟨_, rfl⟩
   have I5 : Hid (IB W5 g1 (fillI Q (k + 1))) := Lib.hid (by rw [← hW5]; exact I3.drew)
   have I6 : Hid (IB W5 g2 (fillI R (k + 1))) := Lib.hid (by rw [← hW5]; exact I4.drew)
   have hB5 : Below s0 w W5 := by rw [← hW5]; exact dc_drew hB4
   have c6 : W5.cell? ⟨g1, k, none⟩ = some (.int .i64 q) := by rw [← hW5]; exact c5
   have HW5 := Lib.hid hW5
   clear hx hu1 hu2 e2 e3 e4 hlk hfq I3 I4 hB4 hB c5 hW5 I1 I2
   go_upto_region 6 with fail
   go_region
   rw [HW5.out]
   clear c1 f1 c2 f2 c3 HW5 hc
   go_wp2_with fail
   go_roundg (n - (k + 1))
   case measure => omega
   case rel => exact ⟨k + 1, l - q, rfl, by go_num, by omega, by omega, HLE2, hlk1, hlk2, I5, I6, hB5⟩
  ·have hkn : k = n := by omega
   have hltz : ¬ (k : Int) < (n : Int) := by omega
   have I3 : Hid (IB wr g1 (givenL Q R 0)) := Lib.hid (by have h := I1.out; rw [fillI_all (by rw [HQL.out]; omega)] at h; rw [givenL_zero]; exact h)
   have I4 := I2.out
   rw [fillI_all (by rw [HRL.out]; omega)] at I4
   have hleft := left_in (T := T) (W := W) hW0 HW.out
   have hll : leftOf T W ws = l := by unfold leftOf; rw [HQ.out]; have := HLE.out; rw [List.take_of_length_le (by rw [HQL.out]; omega)] at this; omega
   rw [hll, HRR.out, HL.out] at hleft
   obtain ⟨m, rfl⟩ : ∃ m : Nat, l = (m : Int) := ⟨l.toNat, by omega⟩
   have hmn : m ≤ n := by omega
   have HM : Hid (partsP T W ws = givenL Q R m) := Lib.hid (by unfold partsP; rw [HQ.out, HRR.out, hll]; rfl)
   have hdes := desc_any (some ⟨g2, 0, none⟩) n R wr I4.ints (by rw [HRL.out]; omega) (by rw [HRL.out]; omega)
   rw [HRL.out] at hdes
   have HD := Lib.hid hdes
   have hg1w : g1 < wr.heap.size := I3.out.lt
   have hszw : s0 ≤ wr.heap.size := by omega
   clear hdes hll hleft I1 I2 I4 HLE
   go_wp2_with (go_at_call 41; refine HD.out.mono ?_; rintro e w' ⟨g3, O, rfl, hg3, hb3, hpe, hso, hO⟩)
   have hg13 : g1 ≠ g3 := by omega
   have I1 : Hid (IB w' g1 (givenL Q R 0)) := Lib.hid (I3.out.more hb3)
   replace hB : Below s0 w w' := hB.trans (hb3.mono hszw)
   have HO := Lib.hid hO
   have HPE := Lib.hid hpe
   have HSO := Lib.hid hso
   have HOL : Hid (O.length = n) := Lib.hid (by have := hpe.length_eq; rwa [List.length_range] at this)
   have HO9 : Hid (O.length = n) := HOL
   clear hb3 I3 HD hO hpe hso hg3
   go_loopg [13, 56] m (fun kx s13 s56 wq => ∃ k : Nat, s56 = .int .i64 k ∧ k ≤ m ∧ m - k ≤ kx ∧ Hid (IB wq g1 (givenL Q R k)) ∧ Hid (IntsAt .i64 wq (some ⟨g3, 0, none⟩) (O.map fun (k : Nat) => (k : Int))) ∧ Below s0 w wq)
   case atStart => exact ⟨0, rfl, by omega, by omega, I1, HO, hB⟩
   case round =>
    clear I1 HO hB
    obtain ⟨k2, rfl, hk2, hkx2, I1, HO, hB⟩ := hrel
    by_cases hlt2 : k2 < m
    ·have hltz2 : (k2 : Int) < (m : Int) := by omega
     obtain ⟨i, hio⟩ : ∃ i, O[k2]'(by rw [HOL.out]; omega) = i := ⟨_, rfl⟩
     have hin : i < n := by
      have h : i ∈ List.range R.length := by rw [HRL.out]; exact HPE.out.mem_iff.1 (by rw [← hio]; exact List.getElem_mem _)
      rw [List.mem_range, HRL.out] at h; exact h
     have hrk : rk R i = k2 := by rw [← hio]; exact order_rk (by rw [HRL.out]; exact HPE.out) HSO.out k2 (by rw [HOL.out]; omega)
     obtain ⟨b3, o3, e3, hb3w, hc3⟩ := HO.out (by rw [List.length_map, HOL.out]; omega)
     injection e3 with e3
     injection e3 with e4 e5
     subst e4
     subst e5
     have hco := hc3 k2 (by rw [List.length_map, HOL.out]; omega)
     have hoi : (O.map fun (k : Nat) => (k : Int)).getD k2 0 = (i : Int) := by
      rw [List.getD_eq_getElem?_getD, List.getElem?_map, List.getElem?_eq_getElem (show k2 < O.length by rw [HOL.out]; omega), hio]; rfl
     rw [hoi, Nat.zero_add] at hco
     obtain ⟨v, hv⟩ : ∃ v, (givenL Q R k2).getD i 0 = v := ⟨_, rfl⟩
     have hvb : 0 ≤ v ∧ v ≤ 1000000000000000001 := by
      have hxb := HOK.out.all (ws.getD i 0) (mem_getD (by rw [HL.out]; exact hin))
      obtain ⟨P, q, r, e1, e2, e3, e4, e5, p1, p2, q1, q2, r1, r2⟩ := quo_one (T := T) (W := W) ⟨hT0, hT1⟩ hW0 hxb
      have hq : Q.getD i 0 = q := by rw [← HQ.out, quoL_at (by rw [HL.out]; exact hin), e1, e2]
      rw [← hv, givenL_at (by rw [HQL.out]; exact hin), hq]
      split <;> omega
     obtain ⟨v1, v2⟩ := hvb
     have hcp := I1.out.cell i (by rw [givenL_len, HQL.out]; exact hin)
     have hfp := I1.out.frozen i
     rw [hv] at hcp
     have I5 : Hid (IB (wr.setCell ⟨g1, i, none⟩ (.int .i64 (v + 1))) g1 (givenL Q R (k2 + 1))) := Lib.hid (by
      rw [givenL_next (by rw [HQL.out, HRL.out]) (by rw [HQL.out]; exact hin) hrk, hv]
      exact I1.out.set i (v + 1))
     have HO5 : Hid (IntsAt .i64 (wr.setCell ⟨g1, i, none⟩ (.int .i64 (v + 1))) (some ⟨g3, 0, none⟩) (O.map fun (k : Nat) => (k : Int))) := Lib.hid fun h0 => ⟨g3, 0, rfl, by simpa using hb3w, fun j hj => (World.cell?_setCell_other _ _ _ _ (by intro e; simp only [Addr.mk.injEq] at e; omega)).trans (hc3 j hj)⟩
     have hB5 : Below s0 w (wr.setCell ⟨g1, i, none⟩ (.int .i64 (v + 1))) := Below.setCell (p := ⟨g1, i, none⟩) hB hg1 _
     have hinz : (i : Int) < (n : Int) := by omega
     clear hio hrk hc3 hoi hv I1 HO hB
     go_wp2_with fail
     go_roundg (m - (k2 + 1))
     case measure => omega
     case rel => exact ⟨k2 + 1, by go_num, by omega, by omega, I5, HO5, hB5⟩
    ·have hkm : k2 = m := by omega
     have hltz2 : ¬ (k2 : Int) < (m : Int) := by omega
     go_wp2_with fail
     go_ret
     exact ⟨g1, rfl, by rw [HS0.out]; exact hB, by rw [HM.out, ← hkm]; exact I1.out⟩
def SlR (w : World) (v : Value) (L : List Int) : Prop := ∃ A c, v = .slice A L.length c ∧ IntsAt .i64 w A L
theorem SlR.nil {w : World} : SlR w (.slice none 0 0) [] := ⟨none, 0, rfl, IntsAt.nil⟩
theorem partsP_bd {T W : Int} {ws : List Int} (hT : 0 ≤ T ∧ T ≤ 1000000000000) (hok : WsOk T ws) (hW : ws.sum = W) : ∀ x ∈ partsP T W ws, 0 ≤ x ∧ x ≤ 1000000000000000001 := by
 intro x hx
 have hW0 : 0 < W := by rw [← hW]; exact hok.pos
 obtain ⟨i, hi, e⟩ := List.getElem_of_mem hx
 have hil : i < ws.length := by rw [partsP_len] at hi; exact hi
 obtain ⟨P, q, r, e1, e2, e3, e4, e5, p1, p2, q1, q2, r1, r2⟩ := quo_one (T := T) (W := W) hT hW0 (hok.all (ws.getD i 0) (mem_getD hil))
 have h2 : x = (partsP T W ws).getD i 0 := by rw [List.getD_eq_getElem?_getD, List.getElem?_eq_getElem hi, ← e]; rfl
 rw [h2]
 unfold partsP
 rw [givenL_at (by simp [quoL]; exact hil), quoL_at hil, e1, e2]
 split <;> omega
theorem WsOk.neg {T : Int} {ws : List Int} (h : WsOk T ws) : WsOk (-T) ws := ⟨by have := h.amt; omega, h.len, h.all, h.pos, h.le⟩
set_option maxRecDepth 20000 in
set_option maxHeartbeats 1600000 in
theorem alSplit_any (T : Int) (A : Option Addr) (c : Nat) (ws : List Int) (w : World) (hz : IntsAt .i64 w A ws) (hmax : ws.length ≤ 9223372036854775807) :
  Calls Try.prog 16 #[.int .i64 T, .slice A ws.length c] w fun e w' => ∃ v, e = .returned (.tuple #[v, .int .i64 (wsE T ws)]) ∧ SlR w' v (splitL T ws) ∧ Below w.heap.size w w' := by
 have hS := sumW_any T A c ws w hz hmax
 have hB := Below.refl w.heap.size w
 by_cases hE : wsE T ws = 0
 ·have hok := wsE_ok hE
  have hV : wsV T ws = ws.sum := by unfold wsV; rw [if_pos hE]
  have hL : splitL T ws = partsL T ws.sum ws := by unfold splitL; rw [if_pos hE]
  rw [hV, hE] at hS
  rw [hL, hE]
  have hlen1 : ws.length ≤ 1000 := hok.len.2
  obtain ⟨hT0, hT1⟩ := hok.amt
  by_cases hneg : T < 0
  ·have hlr := fun w h => largest_any (-T) ws.sum A c ws w h ⟨by omega, by omega⟩ hok.neg rfl
   have hpl : partsL T ws.sum ws = (partsP (-T) ws.sum ws).map fun x => -x := by unfold partsL; rw [if_pos hneg]
   have hng := fun A w h => negated_any A ws.length (partsP (-T) ws.sum ws) w h (by rw [partsP_len]; omega) (fun x hx => by have := partsP_bd (T := -T) ⟨by omega, by omega⟩ hok.neg rfl x hx; omega)
   rw [partsP_len] at hng
   have hpl2 : (partsL T ws.sum ws).length = ws.length := partsL_len _ _ _
   rw [hpl] at hpl2 ⊢
   generalize partsP (-T) ws.sum ws = PP at *
   generalize ws.sum = W at *
   obtain ⟨n, hn⟩ : ∃ n, ws.length = n := ⟨_, rfl⟩
   rw [hn] at hS hlr hng hlen1 hpl2 ⊢
   have HS := Lib.hid hS
   have HLR := Lib.hid hlr
   have HNG := Lib.hid hng
   have HZ := Lib.hid hz
   have HPL := Lib.hid hpl2
   clear hS hlr hng hz hpl2 hpl hV hL hE hn hmax hok
   go_enter Try.func16, Try.ntmps16
   go_wp2_with (first | (go_at_call 28; refine HS.out.mono ?_; rintro e w1 ⟨rfl, hb⟩; replace hB := below_more hB hb; clear hb) | (go_at_call 30; refine (HLR.out _ (HZ.out.up hB)).mono ?_; rintro e w2 ⟨g, rfl, hb, hI⟩; replace hB := below_more hB hb; clear hb; replace hI := Lib.hid hI) | (go_at_call 29; refine (HNG.out _ _ hI.out.ints).mono ?_; rintro e w3 ⟨g3, rfl, hb, hI3⟩; replace hB := below_more hB hb; clear hb; replace hI3 := Lib.hid hI3))
   go_ret2
   exact ⟨_, rfl, ⟨_, _, by rw [HPL.out]; rfl, hI3.out.ints⟩, hB⟩
  ·have hneg' : decide (T < 0) = false := decide_eq_false hneg
   have hlr := fun w h => largest_any T ws.sum A c ws w h ⟨by omega, by omega⟩ hok rfl
   have hpl : partsL T ws.sum ws = partsP T ws.sum ws := by unfold partsL; rw [if_neg hneg]
   have hpl2 : (partsP T ws.sum ws).length = ws.length := partsP_len _ _ _
   rw [hpl]
   generalize partsP T ws.sum ws = PP at *
   generalize ws.sum = W at *
   obtain ⟨n, hn⟩ : ∃ n, ws.length = n := ⟨_, rfl⟩
   rw [hn] at hS hlr hlen1 hpl2 ⊢
   have HS := Lib.hid hS
   have HLR := Lib.hid hlr
   have HZ := Lib.hid hz
   have HPL := Lib.hid hpl2
   clear hS hlr hz hpl2 hpl hV hL hE hn hmax hok hneg
   go_enter Try.func16, Try.ntmps16
   go_wp2_with (first | (go_at_call 28; refine HS.out.mono ?_; rintro e w1 ⟨rfl, hb⟩; replace hB := below_more hB hb; clear hb) | (go_at_call 30; refine (HLR.out _ (HZ.out.up hB)).mono ?_; rintro e w2 ⟨g, rfl, hb, hI⟩; replace hB := below_more hB hb; clear hb; replace hI := Lib.hid hI))
   go_ret2
   exact ⟨_, rfl, ⟨_, _, by rw [HPL.out]; rfl, hI.out.ints⟩, hB⟩
 ·have hV : wsV T ws = 0 := by unfold wsV; rw [if_neg hE]
  have hL : splitL T ws = [] := by unfold splitL; rw [if_neg hE]
  rw [hL]
  rw [hV] at hS
  have hE2 : (wsE T ws == 0) = false := by simp [hE]
  generalize wsE T ws = E at *
  generalize ws.length = n at *
  have HS := Lib.hid hS
  clear hS hV hL hz
  go_enter Try.func16, Try.ntmps16
  go_wp2_with (go_at_call 28; refine HS.out.mono ?_; rintro e w1 ⟨rfl, hb⟩; replace hB := below_more hB hb; clear hb)
  go_ret2
  exact ⟨_, rfl, SlR.nil, hB⟩
set_option maxRecDepth 20000 in
set_option maxHeartbeats 1600000 in
theorem rsame_any (A B : Option Addr) (c d : Nat) (zs ys : List Int) (w : World) (hz : IntsAt .i64 w A zs) (hy : IntsAt .i64 w B ys) (hl : zs.length ≤ 9223372036854775807) :
  Calls Try.prog 14 #[.slice A zs.length c, .slice B ys.length d] w fun e w' => e = .returned (.bool (decide (zs = ys))) ∧ Below w.heap.size w w' := by
 have hB := Below.refl w.heap.size w
 obtain ⟨n, hn⟩ : ∃ n, zs.length = n := ⟨_, rfl⟩
 obtain ⟨m, hm⟩ : ∃ m, ys.length = m := ⟨_, rfl⟩
 rw [hn] at hl ⊢
 rw [hm]
 by_cases hnm : n = m
 ·subst hnm
  have HN := Lib.hid hn
  have HM := Lib.hid hm
  have HZ := Lib.hid hz
  have HY := Lib.hid hy
  clear hn hm hz hy
  have hnn : ((n : Int) == (n : Int)) = true := by simp
  go_enter Try.func14, Try.ntmps14
  go_wp2_with fail
  go_loopg [5] n (fun kx s5 wr => ∃ k : Nat, s5 = .int .i64 k ∧ k ≤ n ∧ n - k ≤ kx ∧ Hid (zs.take k = ys.take k) ∧ Below w.heap.size w wr)
  case atStart => exact ⟨0, rfl, by omega, by omega, Lib.hid (by simp), hB⟩
  case round =>
   clear hB
   obtain ⟨k, rfl, hk, hkx, HT, hB⟩ := hrel
   by_cases hlt : k < n
   ·have hltz : (k : Int) < (n : Int) := by omega
    obtain ⟨b, off, rfl, hbw, hcs⟩ := HZ.out (by rw [HN.out]; omega)
    obtain ⟨b2, off2, rfl, hbw2, hcs2⟩ := HY.out (by rw [HM.out]; omega)
    have hc := (hB.cell (p := ⟨b, off + k, none⟩) hbw).trans (hcs k (by rw [HN.out]; exact hlt))
    have hc2 := (hB.cell (p := ⟨b2, off2 + k, none⟩) hbw2).trans (hcs2 k (by rw [HM.out]; exact hlt))
    have ht1 : zs.take (k + 1) = zs.take k ++ [zs.getD k 0] := by rw [List.take_succ_eq_append_getElem (by rw [HN.out]; exact hlt), List.getD_eq_getElem?_getD, List.getElem?_eq_getElem (by rw [HN.out]; exact hlt)]; rfl
    have ht2 : ys.take (k + 1) = ys.take k ++ [ys.getD k 0] := by rw [List.take_succ_eq_append_getElem (by rw [HM.out]; exact hlt), List.getD_eq_getElem?_getD, List.getElem?_eq_getElem (by rw [HM.out]; exact hlt)]; rfl
    generalize zs.getD k 0 = x at *
    generalize ys.getD k 0 = y at *
    by_cases hxy : x = y
    ·subst hxy
     have hxx : (x == x) = true := by simp
     have HT2 : Hid (zs.take (k + 1) = ys.take (k + 1)) := Lib.hid (by rw [ht1, ht2, HT.out])
     clear ht1 ht2 hcs hcs2
     go_wp2_with fail
     go_quiet (fail)
     replace hB := below_drewN hB nq
     generalize World.drewN _ nq = W1 at *
     go_wp2_with fail
     go_roundg (n - (k + 1))
     case measure => omega
     case rel => exact ⟨k + 1, by go_num, by omega, by omega, HT2, hB⟩
    ·have hxx : (x == y) = false := by simp [hxy]
     have hno : Hid (decide (zs = ys) = false) := Lib.hid (decide_eq_false fun e => by
      rw [e, ht2] at ht1
      have := List.append_cancel_left ht1
      simp at this; exact hxy this.symm)
     clear ht1 ht2 hcs hcs2
     go_wp2_with fail
     go_quiet (fail)
     replace hB := below_drewN hB nq
     generalize World.drewN _ nq = W1 at *
     go_wp2_with fail
     go_ret
     exact ⟨by rw [hno.out]; rfl, hB⟩
   ·have hkn : k = n := by omega
    have hltz : ¬ (k : Int) < (n : Int) := by omega
    have hyes : Hid (decide (zs = ys) = true) := Lib.hid (decide_eq_true (by have h := HT.out; rwa [List.take_of_length_le (by rw [HN.out]; omega), List.take_of_length_le (by rw [HM.out]; omega)] at h))
    go_wp2_with fail
    go_ret
    exact ⟨by rw [hyes.out]; rfl, hB⟩
 ·have hno : Hid (decide (zs = ys) = false) := Lib.hid (decide_eq_false fun e => hnm (by rw [← hn, ← hm, e]))
  have hnn : ((n : Int) == (m : Int)) = false := by simp; omega
  clear hn hm hz hy
  go_enter Try.func14, Try.ntmps14
  go_wp2_with fail
  go_ret
  exact ⟨by rw [hno.out]; rfl, hB⟩
theorem take_snoc (L : List Int) (k : Nat) (h : k < L.length) : L.take (k + 1) = L.take k ++ [L.getD k 0] := by
 rw [List.take_succ_eq_append_getElem h, List.getD_eq_getElem?_getD, List.getElem?_eq_getElem h]; rfl
theorem ints_lit3 (w : World) (a b c : Int) (t : TypeId) : IntsAt .i64 (w.alloc (.cells #[.int .i64 a, .int .i64 b, .int .i64 c] t)) (some ⟨w.heap.size, 0, none⟩) [a, b, c] := fun _ => ⟨w.heap.size, 0, rfl, by simp, fun i hi => by
 have h : i = 0 ∨ i = 1 ∨ i = 2 := by simp at hi; omega
 rw [Nat.zero_add]
 rcases h with rfl | rfl | rfl <;> simp only [World.cell?, heap_alloc_new] <;> rfl⟩
set_option maxRecDepth 20000 in
set_option maxHeartbeats 1600000 in
theorem alAwake_any (w : World) : Calls Try.prog 11 #[] w fun e w' => e = .returned (.bool true) ∧ Below w.heap.size w w' := by
 have e1 : wsE 100 [1, 1, 1] = 0 := by decide
 have e2 : splitL 100 [1, 1, 1] = [34, 33, 33] := by decide
 have hS := fun A c w h => alSplit_any 100 A c [1, 1, 1] w h (by decide)
 have hM := fun A B c d w h1 h2 => rsame_any A B c d [34, 33, 33] [34, 33, 33] w h1 h2 (by decide)
 rw [e1, e2] at hS
 have e3 : decide (([34, 33, 33] : List Int) = [34, 33, 33]) = true := by decide
 rw [e3] at hM
 simp only [List.length_cons, List.length_nil] at hS hM
 have HS := Lib.hid hS
 have HM := Lib.hid hM
 have hB := Below.refl w.heap.size w
 clear hS hM e1 e2 e3
 go_enter Try.func11, Try.ntmps11
 go_wp2_with (first
  | (go_at_call 16; refine (HS.out _ _ _ (ints_lit3 _ 1 1 1 _)).mono ?_; rintro e w1 ⟨v, rfl, ⟨A1, c1, hv, hI⟩, hb⟩; replace hB := (hB.alloc (Nat.le_refl _) _).trans (hb.mono (by simp)); clear hb; simp only [List.length_cons, List.length_nil] at hv; subst hv; replace hI := Lib.hid hI)
  | (go_at_call 14; refine (HM.out _ _ _ _ _ (hI.out.up (below_alloc_new _)) (ints_lit3 _ 34 33 33 _)).mono ?_; rintro e w2 ⟨rfl, hb⟩; replace hB := (hB.alloc hB.size _).trans (hb.mono (by have := hB.size; simp; omega)); clear hb))
 go_ret
 exact ⟨rfl, hB⟩
theorem sum_ind : ∀ (l : List Nat) (f : Nat → Int) (p : Nat → Bool), (l.map fun i => f i + if p i = true then 1 else 0).sum = (l.map f).sum + (l.countP p : Nat)
 | [], _, _ => by simp
 | a :: t, f, p => by
  rw [List.map_cons, List.sum_cons, sum_ind t f p, List.map_cons, List.sum_cons, List.countP_cons]
  cases p a <;> simp <;> omega
theorem partsP_sum {T W : Int} {ws : List Int} (hW : 0 < W) (hs : ws.sum = W) : (partsP T W ws).sum = T := by
 have h1 := left_in (T := T) hW hs
 have hRl : (remL T W ws).length = ws.length := by simp [remL]
 have hQl : (quoL T W ws).length = ws.length := by simp [quoL]
 obtain ⟨m, hm⟩ : ∃ m : Nat, leftOf T W ws = m := ⟨(leftOf T W ws).toNat, by omega⟩
 unfold partsP
 rw [hm, Int.toNat_natCast]
 unfold givenL
 have h2 := sum_ind (List.range (quoL T W ws).length) (fun i => (quoL T W ws).getD i 0) (fun i => decide (rk (remL T W ws) i < m))
 simp only [decide_eq_true_eq] at h2
 rw [h2]
 have h3 := countP_perm_rk (remL T W ws) m (by omega)
 rw [hRl] at h3
 rw [hQl, h3]
 have h4 : ((List.range ws.length).map fun i => (quoL T W ws).getD i 0) = quoL T W ws := by
  apply List.ext_getElem
  ·simp [quoL]
  ·intro i h1 h2; simp [List.getD_eq_getElem?_getD, h2]
 rw [h4]
 unfold leftOf at hm
 omega
theorem neg_sum : ∀ l : List Int, (l.map fun x => -x).sum = -l.sum
 | [] => rfl
 | a :: t => by rw [List.map_cons, List.sum_cons, neg_sum t, List.sum_cons]; omega
theorem scale_quo {T W c : Int} (hc : 0 < c) (ws : List Int) : quoL T (W * c) (ws.map fun x => x * c) = quoL T W ws := by
 unfold quoL
 rw [List.map_map]
 refine List.map_congr_left fun x _ => ?_
 show T * (x * c) / (W * c) = _
 rw [← Int.mul_assoc, Int.mul_ediv_mul_of_pos_left _ _ hc]
theorem scale_rem {T W c : Int} (hc : 0 < c) (ws : List Int) : remL T (W * c) (ws.map fun x => x * c) = (remL T W ws).map fun x => x * c := by
 unfold remL
 rw [List.map_map, List.map_map]
 refine List.map_congr_left fun x _ => ?_
 show T * (x * c) % (W * c) = T * x % W * c
 rw [← Int.mul_assoc, Int.mul_comm (T * x) c, Int.mul_comm W c, Int.mul_emod_mul_of_pos _ _ hc, Int.mul_comm]
theorem scale_rk {c : Int} (hc : 0 < c) (R : List Int) (i : Nat) : rk (R.map fun x => x * c) i = rk R i := by
 have e : ∀ j, (R.map fun x => x * c).getD j 0 = R.getD j 0 * c := fun j => by
  rw [List.getD_eq_getElem?_getD, List.getElem?_map, List.getD_eq_getElem?_getD]
  cases R[j]? <;> simp
 unfold rk
 rw [List.length_map]
 congr 1
 funext j
 rw [Bool.eq_iff_iff, bt_true, bt_true, e, e, Int.mul_lt_mul_right hc]
 have h2 : R.getD j 0 * c = R.getD i 0 * c ↔ R.getD j 0 = R.getD i 0 := Int.mul_eq_mul_right_iff (by omega)
 rw [h2]
theorem scale_parts {T W c : Int} (hc : 0 < c) (ws : List Int) : partsP T (W * c) (ws.map fun x => x * c) = partsP T W ws := by
 unfold partsP
 have hl : leftOf T (W * c) (ws.map fun x => x * c) = leftOf T W ws := by unfold leftOf; rw [scale_quo hc]
 rw [hl, scale_quo hc, scale_rem hc]
 unfold givenL
 refine List.map_congr_left fun i _ => ?_
 rw [scale_rk hc]
theorem sum_scale (c : Int) : ∀ ws : List Int, (ws.map fun x => x * c).sum = ws.sum * c
 | [] => by simp
 | a :: t => by rw [List.map_cons, List.sum_cons, sum_scale c t, List.sum_cons, Int.add_mul]
theorem zeros_of {l : List Int} (h : ∀ x ∈ l, 0 ≤ x) (hs : l.sum = 0) : l.map (fun x => -x) = l := by
 induction l with
 | nil => rfl
 | cons a t ih =>
  have h1 := h a (by simp)
  have h2 : 0 ≤ t.sum := by
   have h3 : ∀ x ∈ t, 0 ≤ x := fun x hx => h x (by simp [hx])
   clear ih hs h
   induction t with
   | nil => simp
   | cons b u ih => rw [List.sum_cons]; have := h3 b (by simp); have := ih (fun x hx => h3 x (by simp [hx])); omega
  rw [List.sum_cons] at hs
  rw [List.map_cons, ih (fun x hx => h x (by simp [hx])) (by omega)]
  congr 1; omega
theorem scaled_all {ws : List Int} {c : Int} (h : ∀ x ∈ ws, 0 ≤ x ∧ x ≤ 255) (hc : 1 ≤ c ∧ c ≤ 255) : ws.all wgB = true ∧ (ws.map fun x => x * c).all wgB = true := by
 refine ⟨List.all_eq_true.2 fun x hx => ?_, List.all_eq_true.2 fun y hy => ?_⟩
 ·have := h x hx
  unfold wgB; simp; omega
 ·obtain ⟨x, hx, rfl⟩ := List.mem_map.1 hy
  have hx := h x hx
  have h1 : 0 ≤ x * c := Int.mul_nonneg hx.1 (by omega)
  have h2 : x * c ≤ 255 * 255 := Int.mul_le_mul hx.2 hc.2 (by omega) (by omega)
  unfold wgB; simp; omega
theorem scaled_E {T c : Int} {ws : List Int} (h : ∀ x ∈ ws, 0 ≤ x ∧ x ≤ 255) (hc : 1 ≤ c ∧ c ≤ 255) : wsE T (ws.map fun x => x * c) = wsE T ws := by
 obtain ⟨h1, h2⟩ := scaled_all h hc
 unfold wsE
 rw [h1, h2, List.length_map, sum_scale]
 have : (ws.sum * c = 0) ↔ (ws.sum = 0) := by
  rw [Int.mul_eq_zero]
  exact ⟨fun h => h.elim id (fun h => by omega), .inl⟩
 simp only [this]
theorem scaled_L {T c : Int} {ws : List Int} (h : ∀ x ∈ ws, 0 ≤ x ∧ x ≤ 255) (hc : 1 ≤ c ∧ c ≤ 255) : splitL T (ws.map fun x => x * c) = splitL T ws := by
 unfold splitL
 rw [scaled_E h hc]
 split
 ·unfold partsL
  rw [sum_scale, scale_parts (by omega), scale_parts (by omega)]
 ·rfl
theorem negated_E {T : Int} {ws : List Int} (hT : -2147483648 ≤ T ∧ T ≤ 2147483647) : wsE (-T) ws = wsE T ws := by
 have h1 : amtB T = true := amtB_mk (by omega) (by omega)
 have h2 : amtB (-T) = true := amtB_mk (by omega) (by omega)
 unfold wsE
 rw [h1, h2]
theorem negated_L {T : Int} {ws : List Int} (hT : -2147483648 ≤ T ∧ T ≤ 2147483647) : splitL (-T) ws = (splitL T ws).map fun x => -x := by
  have hid : ∀ l : List Int, (l.map fun x => -x).map (fun x => -x) = l := fun l => by rw [List.map_map]; conv => rhs; rw [← List.map_id l]
                                                                                      exact List.map_congr_left fun x _ => by show - -x = x; omega
  unfold splitL
  rw [negated_E hT]
  split
  · rename_i hE
    have hok := wsE_ok hE
    unfold partsL
    rcases Int.lt_trichotomy T 0 with h | h | h
    · rw [if_neg (by omega), if_pos h, hid]
    · subst h
      rw [if_neg (by omega), if_neg (by omega)]
      show partsP 0 _ _ = _
      exact (zeros_of (fun x hx => (partsP_bd (by omega) hok rfl x hx).1) (partsP_sum hok.pos rfl)).symm
    · rw [if_pos (by omega), if_neg (by omega), Int.neg_neg]
  · rfl
theorem split_bd {T : Int} {ws : List Int} : ∀ x ∈ splitL T ws, -1000000000000000001 ≤ x ∧ x ≤ 1000000000000000001 := by
 intro x hx
 unfold splitL at hx
 split at hx
 ·rename_i hE
  have hok := wsE_ok hE
  have ha := hok.amt
  unfold partsL at hx
  split at hx
  ·obtain ⟨y, hy, rfl⟩ := List.mem_map.1 hx
   have := partsP_bd (by omega) hok.neg rfl y hy
   omega
  ·have := partsP_bd (by omega) hok rfl x hx
   omega
 ·cases hx
theorem box_new (w : World) (v : Value) (t : TypeId) : (w.alloc (.cells #[v] t)).cell? ⟨w.heap.size, 0, none⟩ = some v := by
 unfold World.cell?
 rw [heap_alloc_new]
 rfl
theorem box_old (w : World) (v : Value) (t : TypeId) (o : Obj) : ((w.alloc (.cells #[v] t)).alloc o).cell? ⟨w.heap.size, 0, none⟩ = some v := by
 rw [← box_new w v t]
 exact (below_alloc_new (w := w.alloc (.cells #[v] t)) o).cell (by simp)
theorem box_next (w : World) (v : Value) (t : TypeId) (o : Obj) : ((w.alloc o).alloc (.cells #[v] t)).cell? ⟨w.heap.size + 1, 0, none⟩ = some v := by
 have := box_new (w.alloc o) v t
 rwa [show (w.alloc o).heap.size = w.heap.size + 1 by simp] at this
theorem TwoI.alloc {k : IntKind} {e : TypeId} {w : World} {base : Nat} {v1 v2 : Value} {L1 L2 : List Int} (h : TwoI k e w base v1 v2 L1 L2) (o : Obj) : TwoI k e (w.alloc o) base v1 v2 L1 L2 := ⟨h.o1.alloc o, h.o2.alloc o, h.ne⟩
theorem TwoI.drew {k : IntKind} {e : TypeId} {w : World} {base : Nat} {v1 v2 : Value} {L1 L2 : List Int} (h : TwoI k e w base v1 v2 L1 L2) : TwoI k e w.drew base v1 v2 L1 L2 := ⟨h.o1, h.o2, h.ne⟩
theorem TwoI.far {k : IntKind} {e : TypeId} {w : World} {base : Nat} {v1 v2 : Value} {L1 L2 : List Int} (h : TwoI k e w base v1 v2 L1 L2) {b : Nat} (hb : v1.ownBlock = some b) : b < w.heap.size := (World.ownsRow.lt h.o1 b hb).2
theorem step_append_two {P : Program} {ops : Array Oper} {o : Oper} {a : Act} {tm : Array Value} {w : World} {K : Act → World → Prop} {Q : Exit → Act → World → Prop} {E : Prop} (hgd : o.guard = none) (s x : Operand) (t : TypeId)
  (ho : o.op = .call { callee := .builtin .append, args := #[s, x], argTypes := #[t, t] })
  (base : Nat) (e : TypeId) (i : TypeInfo) (bytes : Nat) (ht : P.underlying t = some (.slice e)) (hi : P.info? e = some i) (hz : i.zero = some (.int .i64 0))
  (hsize : i.size = 1) (hby : i.bytes = bytes) (hb8 : bytes ≤ 8)
  (v v2 : Value) (L L2 : List Int) (hs : a.eval s = v) (hown : TwoI .i64 e w base v v2 L L2) (X : Int) (g c : Nat) (hx : a.eval x = .slice (some ⟨g, 0, none⟩) 1 c) (hg : w.cell? ⟨g, 0, none⟩ = some (.int .i64 X))
  (hlen : L.length ≤ 100000000) (hbase : base ≤ w.heap.size)
  (h : ∀ v' w', Hid (TwoI .i64 e w' base v' v2 (L ++ [X]) L2) → Below base w w' → Hid (∀ b, b < w.heap.size → v.ownBlock ≠ some b → ∀ j, w'.cell? ⟨b, j, none⟩ = w.cell? ⟨b, j, none⟩) → K (a.put o.dst v') w') :
  if Region.wanted o (yielded ops tm) = true then Oper.wp P o a w K Q else E := by
 have hw1 : ∀ y, Region.wanted o y = true := fun y => by simp [Region.wanted, hgd]
 suffices h9 : (if Region.wanted o (yielded ops a.tmps) = true then Oper.wp P o a w K Q else E) by
  rw [if_pos (hw1 _)] at h9 ⊢
  exact h9
 have hbb : (L.length + 1) * bytes ≤ (L.length + 1) * 8 := Nat.mul_le_mul_left _ hb8
 refine step_append_lies w hgd s x t ho base e i (.int .i64 0) 1 bytes ht hi hz hsize hby rfl (by decide) v L.length (L.map fun d => Value.int .i64 d) hs hown.o1 ⟨g, 0, none⟩ 1 c [.int .i64 X] hx rfl ?_ ?_ (by decide) (by unfold maxLen; omega) (by omega) hbase w.heap.size rfl ?_
 ·intro j u hj
  match j, hj with
  | 0, hj =>
   simp at hj; subst hj
   unfold Addr.add
   rw [if_pos rfl]
   exact hg
 ·intro u hu; simp at hu; subst hu; rfl
 ·intro g' cap w' h1 h2 h3 _
  refine h _ w' (Lib.hid ⟨?_, ?_, ?_⟩) ((Below.refl base w).grown h2 hbase (fun j hj => (World.ownsRow.lt hown.o1 j hj).1)) (Lib.hid fun b hb hne j => h2.cell_far ⟨b, j, none⟩ hb (fun e => hne e.symm))
  ·show World.ownsRow _ _ _ _ _ _ _
   rw [List.length_append, List.map_append]
   exact h1
  ·exact World.ownsRow.kept hown.o2 h2 (hown.symm.ne)
  ·have e9 : (Value.slice (some ⟨g', 0, none⟩) (L.length + 1) cap).ownBlock = some g' := rfl
   rw [e9]
   rcases h3 with h3 | h3
   ·rw [← h3]; rcases hown.ne with h4 | h4
    ·rw [h4] at h3; cases h3
    ·exact .inr h4
   ·right
    rw [h3]
    intro e9
    have := (World.ownsRow.lt hown.o2 _ e9.symm).2
    omega
set_option maxRecDepth 20000 in
set_option maxHeartbeats 1600000 in
theorem alscaled_short (T : Int) (A : Option Addr) (c : Nat) (ws : List Int) (by' : Int) (w : World) (hz : IntsAt .u8 w A ws) (hl : ws.length ≤ 100) (hwf : ∀ x ∈ ws, 0 ≤ x ∧ x ≤ 255) (hby : 1 ≤ by' ∧ by' ≤ 255) (hT : -2147483648 ≤ T ∧ T ≤ 2147483647) :
    Calls Try.prog 9 #[.int .i32 T, .slice A ws.length c, .int .u8 by'] w fun e w' => e = .returned (.bool true) ∧ Below w.heap.size w w' := by
  have hs1 := fun A c w h => alSplit_any T A c ws w h (by omega)
  have hs2 := fun A c w h => alSplit_any T A c (ws.map fun x => x * by') w h (by rw [List.length_map]; omega)
  have hs3 := fun A c w h => alSplit_any (-T) A c ws w h (by omega)
  rw [scaled_E hwf hby, scaled_L hwf hby, List.length_map] at hs2
  rw [negated_E hT, negated_L hT] at hs3
  have hbd := fun x h => split_bd (T := T) (ws := ws) x h
  have hl9 : (splitL T ws).length ≤ 100 := by
    unfold splitL; split
    · rw [partsL_len]; omega
    · simp
  have hM := fun A B c d w h1 h2 => rsame_any A B c d (splitL T ws) (splitL T ws) w h1 h2 (by omega)
  have e3 : decide (splitL T ws = splitL T ws) = true := by simp
  rw [e3] at hM
  obtain ⟨hb1, hb2⟩ := hby
  obtain ⟨n, hn⟩ : ∃ n, ws.length = n := ⟨_, rfl⟩
  rw [hn] at hl hs1 hs2 hs3 ⊢
  obtain ⟨m, hm⟩ : ∃ m, (splitL T ws).length = m := ⟨_, rfl⟩
  rw [hm] at hM hl9
  generalize splitL T ws = L at *
  have hEE : (wsE T ws == wsE T ws) = true := by simp
  generalize wsE T ws = E at *
  have HS1 := Lib.hid hs1
  have HS2 := Lib.hid hs2
  have HS3 := Lib.hid hs3
  have HM := Lib.hid hM
  have HBD := Lib.hid hbd
  have HML := Lib.hid hm
  have hTw : IntKind.i64.wrap T = T := by rw [IntKind.wrap_i64]; omega
  have hTn : IntKind.i64.wrap (-T) = -T := by rw [IntKind.wrap_i64]; omega
  clear hs1 hs2 hs3 hM hbd hm e3
  have h3 : decide ((100 : Int) < (n : Int)) = false := decide_eq_false (by omega)
  have h4 : (by' == 0) = false := by simp; omega
  have HZ := Lib.hid hz
  have HN := Lib.hid hn
  have HWF := Lib.hid hwf
  obtain ⟨s0, hs0⟩ : ∃ s0, w.heap.size = s0 := ⟨_, rfl⟩
  have HS0 := Lib.hid hs0
  have hB := Below.refl w.heap.size w
  rw [hs0] at hB
  clear hz hn hwf hs0
  obtain ⟨i0, hi, hz0, hz1, hz2⟩ := info_parts infoI_int
  go_enter Try.func9, Try.ntmps9
  go_wp2_with (go_at_call 11; refine (alAwake_any _).mono ?_; rintro e w1 ⟨rfl, hb⟩; replace hB := hB.trans (hb.mono (by rw [HS0.out]; exact Nat.le_refl _)); clear hb)
  have hT2 : Hid (TwoI .i64 3 w1 s0 (.slice none 0 0) (.slice none 0 0) (ws.take 0) ((ws.take 0).map fun x => x * by')) := Lib.hid ⟨OwnI.nil, OwnI.nil, .inl rfl⟩
  go_loopg [7, 8, 9] n (fun kx s7 s8 s9 wr => ∃ k : Nat, s9 = .int .i64 k ∧ k ≤ n ∧ n - k ≤ kx ∧ Hid (TwoI .i64 3 wr s0 s7 s8 (ws.take k) ((ws.take k).map fun x => x * by')) ∧ Below s0 w wr)
  case atStart => exact ⟨0, rfl, by omega, by omega, hT2, hB⟩
  case round =>
    clear hT2 hB
    obtain ⟨k, rfl, hk, hkx, hO, hB⟩ := hrel
    have hsz : s0 ≤ wr.heap.size := by have := hB.size; have := HS0.out; omega
    by_cases hlt : k < n
    · have hltz : (k : Int) < (n : Int) := by omega
      obtain ⟨b, off, rfl, hbw, hcs⟩ := HZ.out (by rw [HN.out]; omega)
      have hcw := hcs k (by rw [HN.out]; exact hlt)
      have hc := (hB.cell (p := ⟨b, off + k, none⟩) (by have := HS0.out; show b < s0; omega)).trans hcw
      have hxb := HWF.out (ws.getD k 0) (mem_getD (by rw [HN.out]; exact hlt))
      have htk := take_snoc ws k (by rw [HN.out]; exact hlt)
      have htl : Hid ((ws.take k).length ≤ 100) := Lib.hid (by rw [List.length_take]; omega)
      generalize ws.getD k 0 = x at *
      obtain ⟨x1, x2⟩ := hxb
      obtain ⟨X, hX⟩ : ∃ X, x * by' = X := ⟨_, rfl⟩
      have hX1 : 0 ≤ X := by rw [← hX]; exact Int.mul_nonneg x1 (by omega)
      have hX2 : X ≤ 65025 := by rw [← hX]; exact Int.mul_le_mul x2 hb2 (by omega) (by omega)
      have HX := Lib.hid hX
      have hXw : IntKind.i64.wrap (x * by') = X := by rw [hX, IntKind.wrap_i64]; omega
      have hxw : IntKind.i64.wrap x = x := by rw [IntKind.wrap_i64]; omega
      have hyw : IntKind.i64.wrap by' = by' := by rw [IntKind.wrap_i64]; omega
      have HTK := Lib.hid htk
      have hO9 := Lib.hid hO.out.drew
      have hbs : b < s0 := by have := HS0.out; omega
      have hB9 := dc_drew hB
      have hc9 : wr.drew.cell? ⟨b, off + k, none⟩ = some (.int .u8 x) := hc
      have hsz9 : s0 ≤ wr.drew.heap.size := hsz
      have HCW := Lib.hid hcw
      clear htk hcs hbw hX hcw hO9 hB9 hsz9
      go_upto_region 9 with fail
      go_region_held_law (fun w' => w'.cell? ⟨b, off + k, none⟩ = some (.int .u8 x)) (first | exact hS6 | exact hS5 | exact hc9 | go_keep)
        (first
          | (refine step_append_two rfl (.tmp 32) (.tmp 38) 22 rfl s0 3 i0 8 Try.underlying22 hi hz0 hz1 hz2 (by omega) u7 u8 (ws.take k) ((ws.take k).map fun x => x * by') rfl (by first | exact (hO.out.alloc _).drew | exact ((hO.out.alloc _).alloc _).drew) x _ 1 rfl (by first | exact box_new _ _ _ | exact box_old _ _ _ _ | exact box_next _ _ _ _) (by have := htl.out; omega) (by first | omega | (simp; omega)) ?_
             intro v5 w5 hT5 hB5 hF5
             have hBB5 : Below s0 w w5 := by first | exact (hB.trans (dc_drew ((Below.refl s0 wr).alloc hsz _))).trans hB5 | exact (hB.trans (dc_drew (((Below.refl s0 wr).alloc hsz _).alloc (by simp; omega) _))).trans hB5
             have hS5 : w5.cell? ⟨b, off + k, none⟩ = some (.int .u8 x) := (hBB5.cell hbs).trans HCW.out
             try (have hbx : w5.cell? ⟨wr.heap.size, 0, none⟩ = some (.int .i64 X) := (hF5.out wr.heap.size (by first | (simp; done) | (simp; omega)) (fun e => by have := hO.out.far e; omega) 0).trans (box_old _ _ _ _))
             try (have hbx : w5.cell? ⟨wr.heap.size + 1, 0, none⟩ = some (.int .i64 X) := (hF5.out (wr.heap.size + 1) (by first | (simp; done) | (simp; omega)) (fun e => by have := hO.out.far e; omega) 0).trans (box_next _ _ _ _))
             clear hB5 hF5)
          | (refine step_append_two rfl (.tmp 40) (.tmp 49) 22 rfl s0 3 i0 8 Try.underlying22 hi hz0 hz1 hz2 (by omega) u8 v5 ((ws.take k).map fun x => x * by') (ws.take k ++ [x]) rfl (by first | exact hT5.out.symm | exact hT5.out.symm.alloc _) X _ 1 rfl (by first | exact hbx | exact box_new _ _ _) (by rw [List.length_map]; have := htl.out; omega) (by have := hBB5.size; have := HS0.out; first | omega | (simp; omega)) ?_
             intro v6 w6 hT6 hB6 hF6
             have hBB6 : Below s0 w w6 := by first | exact hBB5.trans hB6 | exact (hBB5.alloc (by have := hBB5.size; have := HS0.out; omega) _).trans hB6
             have hS6 : w6.cell? ⟨b, off + k, none⟩ = some (.int .u8 x) := (hBB6.cell hbs).trans HCW.out
             clear hB6 hF6))
      all_goals
        have hTR := hT6.out.symm
        rw [← HX.out, show (ws.take k).map (fun x => x * by') ++ [x * by'] = (ws.take k ++ [x]).map (fun x => x * by') by simp, ← HTK.out] at hTR
        have HTR := Lib.hid hTR
        clear hTR hT6 hT5 hO
        go_wp2_with fail
        go_roundg (n - (k + 1))
        case measure => omega
        case rel => exact ⟨k + 1, by go_num, by omega, by omega, HTR, hBB6⟩
    · have hkn : k = n := by omega
      have hltz : ¬ (k : Int) < (n : Int) := by omega
      have hO1 := hO.out.o1
      have hO2 := hO.out.o2
      rw [List.take_of_length_le (by rw [HN.out]; omega)] at hO1 hO2
      obtain ⟨A1, c1, ev1, hI1⟩ := hO1.ints
      obtain ⟨A2, c2, ev2, hI2⟩ := hO2.ints
      rw [List.length_map] at ev2
      rw [HN.out] at ev1 ev2
      subst ev1 ev2
      have HI1 := Lib.hid hI1
      have HI2 := Lib.hid hI2
      have HKN := Lib.hid hkn
      clear hO1 hO2 hI1 hI2 hO hkn
      have hmm : ((m : Int) == (m : Int)) = true := by simp
      go_wp2_with (first
        | (go_at_call 16; (with_reducible refine (HS1.out A1 c1 _ HI1.out).mono ?_); rintro e w3 ⟨v3, rfl, ⟨A3, c3, rfl, hI3⟩, hb⟩; rw [HML.out]; replace HI1 := Lib.hid (HI1.out.up hb); replace HI2 := Lib.hid (HI2.out.up hb); replace hB := hB.trans (hb.mono (by have := hB.size; have := HS0.out; omega)); clear hb; have HI3 := Lib.hid hI3; clear hI3)
        | (go_at_call 16; (with_reducible refine (HS2.out A2 c2 _ HI2.out).mono ?_); rintro e w4 ⟨v4, rfl, ⟨A4, c4, rfl, hI4⟩, hb⟩; rw [HML.out]; replace HI1 := Lib.hid (HI1.out.up hb); replace HI3 := Lib.hid (HI3.out.up hb); replace hB := hB.trans (hb.mono (by have := hB.size; have := HS0.out; omega)); clear hb; have HI4 := Lib.hid hI4; clear hI4)
        | (go_at_call 16; (with_reducible refine (HS3.out A1 c1 _ HI1.out).mono ?_); rintro e w5 ⟨v5, rfl, ⟨A5, c5, rfl, hI5⟩, hb⟩; rw [List.length_map, HML.out]; replace HI4 := Lib.hid (HI4.out.up hb); replace HI3 := Lib.hid (HI3.out.up hb); replace hB := hB.trans (hb.mono (by have := hB.size; have := HS0.out; omega)); clear hb; have HI5 := Lib.hid hI5; clear hI5)
        | (go_at_call 14; (with_reducible refine (HM.out A3 A4 c3 c4 _ HI3.out HI4.out).mono ?_); rintro e w6 ⟨rfl, hb⟩; replace HI5 := Lib.hid (HI5.out.up hb); replace HI3 := Lib.hid (HI3.out.up hb); replace hB := hB.trans (hb.mono (by have := hB.size; have := HS0.out; omega)); clear hb))
      go_loopg [16] m (fun kx s16 wq => ∃ i : Nat, s16 = .int .i64 i ∧ i ≤ m ∧ m - i ≤ kx ∧ Hid (IntsAt .i64 wq A3 L) ∧ Hid (IntsAt .i64 wq A5 (L.map fun x => -x)) ∧ Below s0 w wq)
      case atStart => exact ⟨0, rfl, by omega, by omega, HI3, HI5, hB⟩
      case round =>
        clear HI3 HI5 hB HI4 HI1 HI2 hsz
        rename World => wq
        obtain ⟨i, rfl, hi9, hkx2, HI3, HI5, hB⟩ := hrel
        by_cases hlt2 : i < m
        · have hltz2 : (i : Int) < (m : Int) := by omega
          obtain ⟨b, off, rfl, hbw, hcs⟩ := HI3.out (by rw [HML.out]; omega)
          obtain ⟨b2, off2, rfl, hbw2, hcs2⟩ := HI5.out (by rw [List.length_map, HML.out]; omega)
          have d1 := hcs i (by rw [HML.out]; exact hlt2)
          have d2 := hcs2 i (by rw [List.length_map, HML.out]; exact hlt2)
          have hx := HBD.out (L.getD i 0) (mem_getD (by rw [HML.out]; exact hlt2))
          have hng : (L.map fun x => -x).getD i 0 = -(L.getD i 0) := by
            rw [List.getD_eq_getElem?_getD, List.getElem?_map, List.getD_eq_getElem?_getD, List.getElem?_eq_getElem (by rw [HML.out]; exact hlt2)]; rfl
          rw [hng] at d2
          generalize L.getD i 0 = x at *
          obtain ⟨x1, x2⟩ := hx
          obtain ⟨y, hy⟩ : ∃ y, -x = y := ⟨_, rfl⟩
          rw [hy] at d2
          have hyx : IntKind.i64.wrap (-y) = x := by rw [IntKind.wrap_i64]; omega
          have hxx : (x == x) = true := by simp
          clear hcs hcs2 hng hy
          go_wp2_with fail
          go_quiet (fail)
          replace HI3 : Hid (IntsAt .i64 (World.drewN wq nq) (some ⟨b, off, none⟩) L) := HI3
          replace HI5 : Hid (IntsAt .i64 (World.drewN wq nq) (some ⟨b2, off2, none⟩) (L.map fun x => -x)) := HI5
          replace hB := below_drewN hB nq
          clear d1 d2
          generalize World.drewN wq nq = W1 at *
          go_wp2_with fail
          go_roundg (m - (i + 1))
          case measure => omega
          case rel => exact ⟨i + 1, by go_num, by omega, by omega, HI3, HI5, hB⟩
        · have hltz2 : ¬ (i : Int) < (m : Int) := by omega
          go_wp2_with fail
          go_ret
          exact ⟨rfl, by rw [HS0.out]; exact hB⟩
set_option maxRecDepth 20000 in
set_option maxHeartbeats 1600000 in
theorem alscaled_long (T : Int) (A : Option Addr) (len c : Nat) (by' : Int) (w : World) (h : by' = 0 ∨ 100 < len) (hl2 : len ≤ 9223372036854775807) :
  Calls Try.prog 9 #[.int .i32 T, .slice A len c, .int .u8 by'] w fun e w' => e = .returned (.bool true) ∧ Below w.heap.size w w' := by
 have hB := Below.refl w.heap.size w
 by_cases h0 : 100 < len
 ·have h1 : decide ((100 : Int) < (len : Int)) = true := decide_eq_true (by omega)
  clear h
  go_enter Try.func9, Try.ntmps9
  go_wp2_with (go_at_call 11; refine (alAwake_any _).mono ?_; rintro e w1 ⟨rfl, hb⟩; replace hB := below_more hB hb; clear hb)
  go_ret
  exact ⟨rfl, hB⟩
 ·have h1 : decide ((100 : Int) < (len : Int)) = false := decide_eq_false (by omega)
  obtain rfl : by' = 0 := by omega
  clear h h0
  go_enter Try.func9, Try.ntmps9
  go_wp2_with (go_at_call 11; refine (alAwake_any _).mono ?_; rintro e w1 ⟨rfl, hb⟩; replace hB := below_more hB hb; clear hb)
  go_ret
  exact ⟨rfl, hB⟩
theorem law_alscaled (T : Int) (A : Option Addr) (len c : Nat) (ws : List Int) (by' : Int) (w : World) (hT : -2147483648 ≤ T ∧ T ≤ 2147483647) (hwf : ∀ x ∈ ws, (Lit.int .u8 x).wf = true) (hby : 0 ≤ by' ∧ by' ≤ 255) (hlen : ws.length = len) (hmax : len ≤ 9223372036854775807) (hz : IntsAt .u8 w A ws) :
  Calls Try.prog 9 #[.int .i32 T, .slice A len c, .int .u8 by'] w fun e w' => e = .returned (.bool true) ∧ Below w.heap.size w w' := by
 by_cases h : by' = 0 ∨ 100 < len
 ·exact alscaled_long T A len c by' w h hmax
 ·subst hlen
  exact alscaled_short T A c ws by' w hz (by omega) (fun x hx => bounds_u8 (hwf x hx)) (by omega) hT
open Go.ChangeShapes Go.WideShapes Go.ChangeAt Go.WideMaps Go.WideElems Go.RowKit
theorem laid_out : laidOutB Try.prog = true := by kernel_rfl
theorem trodAll_stays {H : Type} {enc : TypeId × Value → H} {P : Program} (hl : laidOutB P = true) {W W' : World} (hb : Below W.heap.size W W') {sp : Nat → Bool} :
  ∀ {ts : List TypeId} {vs : List Value} {ds : List (DataW H)} {ps : List MemPlace}, (ts.all fun t => P.readableRec t && decide (t < P.types.size)) = true → DataW.TrodAll enc P W 0 (fun _ => true) true ts vs ds ps →
   (∀ x ∈ ps, x.block < W.heap.size) → (∀ x ∈ ps, sp x.block = true) → DataW.TrodAll enc P W' 0 sp true ts vs ds ps
 | [], vs, ds, ps, _, h, _, _ => by
  cases vs <;> cases ds <;> simp [DataW.TrodAll] at h ⊢
  exact h
 | t :: ts, vs, ds, ps, ht, h, hlt, hs => by
  obtain ⟨v, vs', d, ds', p, q, rfl, rfl, rfl, h1, h2⟩ := trodAll_cons h
  simp only [List.all_cons, Bool.and_eq_true, decide_eq_true_eq] at ht
  refine trodAll_cons_mk (WideElems.Trod_stays hl ht.1.1 ht.1.2 h1 (fun x hx => hb.same (hlt x (by simp [hx]))) fun x hx => hs x (by simp [hx])) ?_
  exact trodAll_stays hl hb ht.2 h2 (fun x hx => hlt x (by simp [hx])) fun x hx => hs x (by simp [hx])
theorem open_islice {H : Type} {enc : TypeId × Value → H} {P : Program} {W : World} {b0 : Nat} {T E : TypeId} {k : IntKind} {v : Value} {d : DataW H} {p : List MemPlace} (hT : P.underlying T = some (.slice E)) (hE : P.underlying E = some (.int k)) (hc : P.cellsOf E = 1)
  (hval : Value.okWide P W .any b0 T v) (h : DataW.Trod enc P W 0 (fun _ => true) true T v d p) :
  ∃ A len cap zs, v = .slice A len cap ∧ zs.length = len ∧ len ≤ 9223372036854775807 ∧ IntsAt k W A zs ∧ ∀ x ∈ zs, (Lit.int k x).wf = true := by
 obtain ⟨a0, len, cap, rfl⟩ := okWide_slice hT hval
 obtain ⟨fuel, hf⟩ := h
 rcases open_ints hT hE hc hf with ⟨hcs, hx⟩ | ⟨a, len', cap', zs, hcs, _, hl, hm, hz, hx, hcell, hwz⟩
 ·simp [Value.cells] at hcs
  obtain ⟨rfl, rfl, rfl⟩ := hcs
  exact ⟨none, 0, 0, [], rfl, rfl, by omega, IntsAt.nil, by simp⟩
 ·simp [Value.cells] at hcs
  obtain ⟨rfl, rfl, rfl⟩ := hcs
  simp only [if_true] at hz
  unfold maxLen at hm
  have hle : (zs.take len).length = len := by rw [List.length_take, hz]; omega
  refine ⟨_, len, cap, zs.take len, rfl, hle, by omega, fun h0 => ?_, fun x hx => hwz x (List.mem_of_mem_take hx)⟩
  have hl0 : 0 < len := by omega
  obtain ⟨b, off, spot⟩ := a
  have hspot : spot = none := by simpa [Addr.add] using World.cell?_spot (hcell 0 (by omega))
  subst hspot
  have hlt : b < W.heap.size := by
   have h9 := hcell 0 (by omega)
   rcases Nat.lt_or_ge b W.heap.size with hlt | hge
   ·exact hlt
   ·unfold World.cell? at h9
    rw [show (Addr.add ⟨b, off, none⟩ 0).block = b from by rw [block_add], Array.getElem?_eq_none hge] at h9
    simp at h9
  refine ⟨b, off, rfl, hlt, fun i hi => ?_⟩
  rw [hle] at hi
  have h1 := hcell i (by omega)
  rw [Go.WideShapes.add_plain] at h1
  rw [h1, List.getD_eq_getElem?_getD, List.getD_eq_getElem?_getD, List.getElem?_take, if_pos hi]
theorem post_plain {H : Type} {enc : TypeId × Value → H} {P : Program} {f : Func} {s : ChangeSpec} {ap fr ho ag : Bool} {W W' : World} {args : Array Value} {v : Value} {ds gs : List (DataW H)} {before pa pv : List MemPlace}
  (hW : DataW.Whole enc P f.params.toList s.vars ap W args.toList ds gs before)
  (hres : ∀ (b : Nat) (sp : Nat → Bool) (hd : Bool), DataW.TrodAll enc P W' b sp hd f.resultTypes.toList (v.resultList f.resultTypes.size) (s.fn H (ds ++ gs)).results [])
  (hargs : ∀ sp : Nat → Bool, (∀ p ∈ before, sp p.block = true) → DataW.TrodAll enc P W' 0 sp true f.params.toList args.toList (s.fn H (ds ++ gs)).args pa)
  (hvars : ∀ sp : Nat → Bool, (∀ p ∈ before, sp p.block = true) → DataW.TrodVars enc P W' sp s.vars (s.fn H (ds ++ gs)).vars pv)
  (hps : before = pa ++ pv) (hb : Below W.heap.size W W')
  (hok : ∀ (j : Nat) (t : TypeId) (r : Value), f.resultTypes[j]? = some t → (v.resultList f.resultTypes.size)[j]? = some r → Value.okWide P W' .any 0 t r) : s.post enc P f ap fr ho ag W args v W' := by
 have hlt : ∀ p ∈ before, p.block < W.heap.size := fun p hp => hW.lt p hp
 have hin : ∀ p ∈ before, (fun b => decide (b < W.heap.size)) p.block = true := fun p hp => by simpa using hlt p hp
 refine ⟨ds, gs, before, [], pa, pv, hW, hres _ _ _, hargs _ hin, hvars _ hin, World.keptBut_mono (fun p hp => ⟨hp, .inr (List.mem_append.1 (hps ▸ hp))⟩) (hb.frame (· ∈ before)), fun _ => ?_⟩
 obtain ⟨_, _, _, _, _, hz, hn⟩ := hW
 refine ⟨hok, _, _, ([] ++ pa) ++ pv, ⟨[] ++ pa, pv, trodAll_append (hargs _ (fun _ _ => rfl)) (hres _ _ _), hvars _ (fun _ _ => rfl), rfl, fun b off hp => ?_, fun ha => ?_⟩, ?_⟩
 ·have hbe : MemPlace.cell b off ∈ before := by rw [hps]; simpa using hp
  rw [hb.frozen (hlt _ hbe)]
  exact hz b off hbe
 ·have h9 := hn ha
  rw [hps] at h9
  simpa using h9
 ·intro p hp _
  rw [hps, ← List.nil_append pa]
  exact hp
end Go.Proofs.Ytocojbkhdijjeaa
