/- Contracts and the law of MoneyParse, part 1: what was proved of each, callees first. -/
import Derived.Lib.ItoaNum
import Derived.Deep.QuietTactic
import Derived.BigQuiet
import Derived.Outline
import Derived.Test.YthndbonfcdphgaaDoorT2
namespace Go.Proofs.YthndbonfcdphgaaDoor
open Go.Lib (decDigits)
theorem numOf_pos {l : List UInt8} (hd : ∀ c ∈ l, isDig c = true) (h0 : l ≠ []) (h : l.head? ≠ some 48) : 0 < numOf l := by
 match l, h0, h, hd with
 | c :: r, _, h, hd =>
  clear h0
  have hc := isDig_iff.1 (hd c (by simp))
  have h48 : c.toNat ≠ 48 := fun e => h (by
   have : c = 48 := by apply UInt8.toNat_inj.1; rw [e]; rfl
   simp [this])
  have key : ∀ (r : List UInt8) (n : Nat), 0 < n → 0 < r.foldl (fun n c => 10 * n + (c.toNat - 48)) n := by
   intro r
   induction r with
   | nil => intro n hn; exact hn
   | cons d s ih => intro n hn; exact ih _ (by show 0 < 10 * n + _; omega)
  exact key r _ (by show 0 < 10 * 0 + _; omega)
theorem dec_numOf (l : List UInt8) (hd : ∀ c ∈ l, isDig c = true) (h0 : l ≠ []) (h : l = [48] ∨ l.head? ≠ some 48) : decDigits (numOf l) = l := by
 suffices H : ∀ (n : Nat) (l : List UInt8), l.length = n → (∀ c ∈ l, isDig c = true) → l ≠ [] → (l.length = 1 ∨ l.head? ≠ some 48) → decDigits (numOf l) = l by
  refine H _ l rfl hd h0 ?_
  rcases h with h | h
  ·left; simp [h]
  ·right; exact h
 intro n
 induction n with
 | zero => intro l hl _ h0; exact absurd (List.eq_nil_of_length_eq_zero hl) h0
 | succ n ih =>
  intro l hl hd h0 h
  obtain ⟨i, c, rfl⟩ : ∃ i c, l = i ++ [c] := ⟨l.dropLast, l.getLast h0, (List.dropLast_concat_getLast h0).symm⟩
  have hc := isDig_iff.1 (hd c (by simp))
  have ec : UInt8.ofNat (48 + (c.toNat - 48)) = c := by
   rw [show 48 + (c.toNat - 48) = c.toNat by omega]; simp
  rw [numOf_snoc]
  by_cases hi : i = []
  ·subst hi
   show decDigits (10 * 0 + _) = _
   rw [dec_small (by omega), Nat.mul_zero, Nat.zero_add, ec]; rfl
  ·have hh : (i ++ [c]).head? = i.head? := by cases i with | nil => exact absurd rfl hi | cons a b => rfl
   have hl1 : (i ++ [c]).length ≠ 1 := by cases i with | nil => exact absurd rfl hi | cons a b => simp
   have h' : i.head? ≠ some 48 := by rcases h with h | h; exact absurd h hl1; rwa [hh] at h
   have hdi : ∀ x ∈ i, isDig x = true := fun x hx => hd x (by simp [hx])
   have hp := numOf_pos hdi hi h'
   have := dec_pad 1 (numOf i) (c.toNat - 48) hp (by omega)
   rw [show 10 * numOf i = numOf i * 10 ^ 1 by omega, this, ih i (by simpa using hl) hdi hi (.inr h')]
   have e2 : (c.toNat - 48) % 10 = c.toNat - 48 := by omega
   simp [padk, e2, ec]
open Go.RowKit
theorem checked_any (n : Int) (w : World) : Calls Tryd.prog 35 #[.int .i64 n] w fun e w' => e = .returned (.tuple #[.int .i64 (amV n), .int .i64 (amE n)]) ∧ w = w' := by
 unfold amV amE
 cases h : amtB n
 all_goals
  have HV := fun w => rmvalid_any n w
  rw [h] at HV
  have H := Lib.hid HV
  clear HV
  go_enter Tryd.func35, Tryd.ntmps35
  go_wp2_with (go_at_call 14; refine (H.out _).mono ?_; rintro e w' ⟨rfl, rfl⟩)
  go_ret2
  exact ⟨rfl, rfl⟩
def byt (t : List UInt8) (i : Nat) : UInt8 := t.getD i 0
theorem byt_left {W R : List UInt8} {i : Nat} (h : i < W.length) : byt (W ++ R) i = W[i] := by
 unfold byt; rw [List.getD_eq_getElem?_getD, List.getElem?_append_left h, List.getElem?_eq_getElem h]; rfl
theorem byt_right {W R : List UInt8} {i : Nat} (h : W.length ≤ i) : byt (W ++ R) i = byt R (i - W.length) := by
 unfold byt; rw [List.getD_eq_getElem?_getD, List.getElem?_append_right h, ← List.getD_eq_getElem?_getD]
theorem okF_len {t : List UInt8} (h : okF t = true) : 4 ≤ t.length ∧ byt t (t.length - 3) = 46 ∧ (1 < t.length - 3 → byt t 0 ≠ 48) ∧ ∀ i, i < t.length → i ≠ t.length - 3 → isDig (byt t i) = true := by
 obtain ⟨W, R, -, -, rfl, hW, hR, h2, h0⟩ := okF_parts h
 obtain ⟨w1, w2⟩ := dgs_is hW
 have hl : 0 < W.length := List.length_pos_iff.2 w1
 have hn : (W ++ 46 :: R).length = W.length + 3 := by simp [h2]
 rw [hn]
 refine ⟨by omega, ?_, fun h1 => ?_, fun i hi hk => ?_⟩
 ·rw [byt_right (by omega), show W.length + 3 - 3 - W.length = 0 by omega]; rfl
 ·rcases h0 with h0 | h0
  ·omega
  ·rw [byt_left hl]
   intro e
   apply h0
   cases W with
   | nil => simp at hl
   | cons c t => simp at e; simp [e]
 ·rcases Nat.lt_or_ge i W.length with h3 | h3
  ·rw [byt_left h3]; exact w2 _ (List.getElem_mem _)
  ·rw [byt_right h3]
   obtain ⟨j, rfl⟩ : ∃ j, i = W.length + 1 + j := ⟨i - W.length - 1, by omega⟩
   rw [show W.length + 1 + j - W.length = j + 1 by omega]
   have hj : j < R.length := by omega
   show isDig ((46 :: R).getD (j + 1) 0) = true
   rw [List.getD_eq_getElem?_getD, List.getElem?_cons_succ, List.getElem?_eq_getElem hj]
   exact (dgs_is hR).2 _ (List.getElem_mem _)
theorem okF_good {t : List UInt8} {k : Nat} (hk : t.length = k + 3) (h1 : 1 ≤ k) (hd : byt t k = 46) (h0 : ¬ (byt t 0 = 48 ∧ 1 < k)) (ha : ∀ i, i < t.length → i ≠ k → isDig (byt t i) = true) : okF t = true := by
 have e : t = t.take k ++ 46 :: t.drop (k + 1) := by
  have h : k < t.length := by omega
  have e2 : t[k] = 46 := by
   have := hd
   unfold byt at this
   rwa [List.getD_eq_getElem?_getD, List.getElem?_eq_getElem h] at this
  rw [← e2, ← List.drop_eq_getElem_cons h, List.take_append_drop]
 have hb : ∀ i (h : i < t.length), byt t i = t[i] := fun i h => by unfold byt; rw [List.getD_eq_getElem?_getD, List.getElem?_eq_getElem h]; rfl
 have hW : dgs (t.take k) = true := dgs_mk (by intro e; have := congrArg List.length e; rw [List.length_take] at this; simp only [List.length_nil] at this; omega) fun c hc => by
  obtain ⟨i, hi, rfl⟩ := List.getElem_of_mem hc
  rw [List.length_take] at hi
  rw [List.getElem_take, ← hb i (by omega)]
  exact ha i (by omega) (by omega)
 have hR : dgs (t.drop (k + 1)) = true := dgs_mk (by intro e; have := congrArg List.length e; rw [List.length_drop] at this; simp only [List.length_nil] at this; omega) fun c hc => by
  obtain ⟨i, hi, rfl⟩ := List.getElem_of_mem hc
  rw [List.length_drop] at hi
  rw [List.getElem_drop, ← hb (k + 1 + i) (by omega)]
  exact ha _ (by omega) (by omega)
 rw [e]
 refine okF_mk hW hR (by rw [List.length_drop]; omega) ?_
 by_cases h2 : 1 < k
 ·right
  intro hh
  apply h0
  refine ⟨?_, h2⟩
  rw [List.head?_take, if_neg (by omega)] at hh
  unfold byt
  rw [List.getD_eq_getElem?_getD, ← List.head?_eq_getElem?, hh]; rfl
 ·left; rw [List.length_take]; omega
set_option maxRecDepth 20000 in
set_option maxHeartbeats 3200000 in
theorem rform_any (t : List UInt8) (w : World) (hl : t.length ≤ 1000) : Calls Tryd.prog 41 #[.string ⟨t.toArray⟩] w fun e w' => e = .returned (.bool (okF t)) ∧ w = w' := by
 have hi0 : ∀ i h, (⟨t.toArray⟩ : ByteArray)[i]'h = byt t i := fun i h => by
  have h2 : i < t.length := by rw [Lib.size_mk] at h; exact h
  unfold byt; rw [List.getD_eq_getElem?_getD, List.getElem?_eq_getElem h2]; rfl
 by_cases h4 : t.length < 4
 ·have hno : okF t = false := by
   cases h : okF t
   ·rfl
   ·have := (okF_len h).1; omega
  rw [hno]
  have h3 : (t.length : Int) - 3 < 1 := by omega
  clear hi0
  go_enter Tryd.func41, Tryd.ntmps41
  go_wp2_with fail
  go_ret
  exact ⟨rfl, rfl⟩
 ·obtain ⟨k, hk⟩ : ∃ k, t.length = k + 3 := ⟨t.length - 3, by omega⟩
  obtain ⟨n, hn⟩ : ∃ n, t.length = n := ⟨_, rfl⟩
  have hk1 : 1 ≤ k := by omega
  have hk3 : (n : Int) - 3 = (k : Int) := by omega
  have hk4 : decide ((k : Int) < 1) = false := decide_eq_false (by omega)
  have hkn : k < n := by omega
  have hkn2 : (k : Int) < (n : Int) := by omega
  have h0n : (0 : Int) < (n : Int) := by omega
  have HK := Lib.hid hk
  obtain ⟨c, hc⟩ : ∃ c, byt t k = c := ⟨_, rfl⟩
  have hck : ∀ h, (⟨t.toArray⟩ : ByteArray)[k]'h = c := fun h => (hi0 k h).trans hc
  by_cases hd : c = 46
  ·subst hd
   obtain ⟨z, hz⟩ : ∃ z, byt t 0 = z := ⟨_, rfl⟩
   have hcz : ∀ h, (⟨t.toArray⟩ : ByteArray)[0]'h = z := fun h => (hi0 0 h).trans hz
   have HC := Lib.hid hc
   have HZ := Lib.hid hz
   have HI := Lib.hid hi0
   have HNK : Hid (n = k + 3) := Lib.hid (hn.symm.trans hk)
   clear hc hz hi0 hk h4
   by_cases hz8 : z = 48
   ·subst hz8
    by_cases hk2 : 1 < k
    ·have hno : okF t = false := by
      cases h : okF t
      ·rfl
      ·exfalso
       exact (okF_len h).2.2.1 (by rw [HK.out]; omega) HZ.out
     rw [hno]
     have hk2' : (1 : Int) < (k : Int) := by omega
     clear hno
     go_enter Tryd.func41, Tryd.ntmps41
     go_wp2_with fail
     go_ret
     exact ⟨rfl, rfl⟩
    ·have HZ0 : Hid (¬ ((48 : UInt8) = 48 ∧ 1 < k)) := Lib.hid (by omega)
     have hk2' : decide ((1 : Int) < (k : Int)) = false := decide_eq_false (by omega)
     clear hk2
     go_enter Tryd.func41, Tryd.ntmps41
     go_wp2_with fail
     go_loop [4] (fun v => ∃ i : Nat, i ≤ n ∧ v = .int .i64 i ∧ Hid (∀ j, j < i → j ≠ k → isDig (byt t j) = true)) (fun v => n - (intOf v).toNat)
     case atStart => exact ⟨0, by omega, rfl, fun j h => absurd h (by omega)⟩
     case round =>
      obtain ⟨i, hi, rfl, hd⟩ := hrel
      by_cases hlt : i < n
      ·have hlt' : (i : Int) < (n : Int) := by omega
       obtain ⟨b, hb⟩ : ∃ b, byt t i = b := ⟨_, rfl⟩
       have hcb : ∀ h, (⟨t.toArray⟩ : ByteArray)[i]'h = b := fun h => (HI.out i h).trans hb
       have HB := Lib.hid hb
       clear hb
       by_cases hik : i = k
       ·subst hik
        have hne : ((i : Int) != (i : Int)) = false := by simp
        go_wp2_with fail
        go_round
        case rel => exact ⟨i + 1, by omega, by go_num, fun j hj hj2 => hd.out j (by omega) hj2⟩
        case measure => simp [intOf]; omega
       ·have hne : ((i : Int) != (k : Int)) = true := by simp; omega
        by_cases hb1 : b.toNat < 48
        ·have hno : Hid (okF t = false) := Lib.hid (by
          cases h : okF t
          ·rfl
          ·have := (okF_len h).2.2.2 i (by rw [HK.out, ← HNK.out]; exact hlt) (by rw [HK.out, Nat.add_sub_cancel]; exact hik)
           rw [HB.out, isDig_iff] at this; omega)
         have hq : ((b.toNat : Int)) < 48 := by omega
         clear hb1
         go_wp2_with fail
         go_ret
         exact ⟨by rw [hno.out]; rfl, rfl⟩
        ·have hq : decide ((b.toNat : Int) < 48) = false := decide_eq_false (by omega)
         by_cases hb2 : 57 < b.toNat
         ·have hno : Hid (okF t = false) := Lib.hid (by
           cases h : okF t
           ·rfl
           ·have := (okF_len h).2.2.2 i (by rw [HK.out, ← HNK.out]; exact hlt) (by rw [HK.out, Nat.add_sub_cancel]; exact hik)
            rw [HB.out, isDig_iff] at this; omega)
          have hq2 : 57 < ((b.toNat : Int)) := by omega
          clear hb1 hb2
          go_wp2_with fail
          go_ret
          exact ⟨by rw [hno.out]; rfl, rfl⟩
         ·have hq2 : decide (57 < (b.toNat : Int)) = false := decide_eq_false (by omega)
          have hdb : Hid (isDig b = true) := Lib.hid (isDig_iff.2 ⟨by omega, by omega⟩)
          clear hb1 hb2
          go_wp2_with fail
          go_round
          case rel => exact ⟨i + 1, by omega, by go_num, fun j hj hj2 => by
           rcases Nat.lt_succ_iff_lt_or_eq.1 hj with h | rfl
           ·exact hd.out j h hj2
           ·rw [HB.out]; exact hdb.out⟩
          case measure => simp [intOf]; omega
      ·obtain rfl : i = n := by omega
       have hge : decide ((i : Int) < (i : Int)) = false := by simp
       have hyes : Hid (okF t = true) := Lib.hid (okF_good HK.out hk1 HC.out (by rw [HZ.out]; exact fun h => HZ0.out (by simpa using h)) fun j hj hj2 => hd.out j (by rw [HK.out, ← HNK.out] at hj; exact hj) hj2)
       go_wp2_with fail
       go_ret
       exact ⟨by rw [hyes.out]; rfl, rfl⟩
   ·have HZ0 : Hid (¬ (z = 48 ∧ 1 < k)) := Lib.hid (by intro h; exact hz8 h.1)
    have hzn : ((z.toNat : Int) == 48) = false := by
     simp only [beq_eq_false_iff_ne, ne_eq]
     intro e; apply hz8; apply UInt8.toNat_inj.1; show z.toNat = 48; omega
    clear hz8
    go_enter Tryd.func41, Tryd.ntmps41
    go_wp2_with fail
    go_loop [4] (fun v => ∃ i : Nat, i ≤ n ∧ v = .int .i64 i ∧ Hid (∀ j, j < i → j ≠ k → isDig (byt t j) = true)) (fun v => n - (intOf v).toNat)
    case atStart => exact ⟨0, by omega, rfl, fun j h => absurd h (by omega)⟩
    case round =>
     obtain ⟨i, hi, rfl, hd⟩ := hrel
     by_cases hlt : i < n
     ·have hlt' : (i : Int) < (n : Int) := by omega
      obtain ⟨b, hb⟩ : ∃ b, byt t i = b := ⟨_, rfl⟩
      have hcb : ∀ h, (⟨t.toArray⟩ : ByteArray)[i]'h = b := fun h => (HI.out i h).trans hb
      have HB := Lib.hid hb
      clear hb
      by_cases hik : i = k
      ·subst hik
       have hne : ((i : Int) != (i : Int)) = false := by simp
       go_wp2_with fail
       go_round
       case rel => exact ⟨i + 1, by omega, by go_num, fun j hj hj2 => hd.out j (by omega) hj2⟩
       case measure => simp [intOf]; omega
      ·have hne : ((i : Int) != (k : Int)) = true := by simp; omega
       by_cases hb1 : b.toNat < 48
       ·have hno : Hid (okF t = false) := Lib.hid (by
         cases h : okF t
         ·rfl
         ·have := (okF_len h).2.2.2 i (by rw [HK.out, ← HNK.out]; exact hlt) (by rw [HK.out, Nat.add_sub_cancel]; exact hik)
          rw [HB.out, isDig_iff] at this; omega)
        have hq : ((b.toNat : Int)) < 48 := by omega
        clear hb1
        go_wp2_with fail
        go_ret
        exact ⟨by rw [hno.out]; rfl, rfl⟩
       ·have hq : decide ((b.toNat : Int) < 48) = false := decide_eq_false (by omega)
        by_cases hb2 : 57 < b.toNat
        ·have hno : Hid (okF t = false) := Lib.hid (by
          cases h : okF t
          ·rfl
          ·have := (okF_len h).2.2.2 i (by rw [HK.out, ← HNK.out]; exact hlt) (by rw [HK.out, Nat.add_sub_cancel]; exact hik)
           rw [HB.out, isDig_iff] at this; omega)
         have hq2 : 57 < ((b.toNat : Int)) := by omega
         clear hb1 hb2
         go_wp2_with fail
         go_ret
         exact ⟨by rw [hno.out]; rfl, rfl⟩
        ·have hq2 : decide (57 < (b.toNat : Int)) = false := decide_eq_false (by omega)
         have hdb : Hid (isDig b = true) := Lib.hid (isDig_iff.2 ⟨by omega, by omega⟩)
         clear hb1 hb2
         go_wp2_with fail
         go_round
         case rel => exact ⟨i + 1, by omega, by go_num, fun j hj hj2 => by
          rcases Nat.lt_succ_iff_lt_or_eq.1 hj with h | rfl
          ·exact hd.out j h hj2
          ·rw [HB.out]; exact hdb.out⟩
         case measure => simp [intOf]; omega
     ·obtain rfl : i = n := by omega
      have hge : decide ((i : Int) < (i : Int)) = false := by simp
      have hyes : Hid (okF t = true) := Lib.hid (okF_good HK.out hk1 HC.out (by rw [HZ.out]; exact fun h => HZ0.out (by simpa using h)) fun j hj hj2 => hd.out j (by rw [HK.out, ← HNK.out] at hj; exact hj) hj2)
      go_wp2_with fail
      go_ret
      exact ⟨by rw [hyes.out]; rfl, rfl⟩
  ·have hno : okF t = false := by
    cases h : okF t
    ·rfl
    ·exfalso
     apply hd
     have := (okF_len h).2.1
     rw [hk, Nat.add_sub_cancel, hc] at this
     exact this
   rw [hno]
   have hne : ((c.toNat : Int) != 46) = true := by
    simp only [bne_iff_ne, ne_eq]
    intro e; apply hd; apply UInt8.toNat_inj.1; show c.toNat = 46; omega
   clear hi0 hno hc hk hd h4
   go_enter Tryd.func41, Tryd.ntmps41
   go_wp2_with fail
   go_ret
   exact ⟨rfl, rfl⟩
theorem neg_zero_text (l : List UInt8) : (l == [45, 48, 46, 48, 48]) = (ngL l && (unL l == [48, 46, 48, 48])) := by
 rcases sign_cases l with ⟨h1, h2⟩ | ⟨h1, h2⟩
 ·rw [h1, Bool.true_and]
  generalize unL l = U at *
  subst h2
  rfl
 ·rw [h1, Bool.false_and]
  cases l with
  | nil => rfl
  | cons c t =>
   have hc : c ≠ 45 := by
    rintro rfl
    unfold ngL Lib.hasPrefix at h1
    simp at h1
   simp [hc]
theorem sign_head {l : List UInt8} (h : ngL l = false) : l = [] ∨ ∃ c t, l = c :: t ∧ c ≠ 45 := by
 cases l with
 | nil => exact .inl rfl
 | cons c t =>
  refine .inr ⟨c, t, rfl, ?_⟩
  rintro rfl
  unfold ngL Lib.hasPrefix at h
  simp at h
def satN (n : Nat) : Nat := min n 1000000000001
theorem satN_next (n d : Nat) : min (10 * satN n + d) 1000000000001 = satN (10 * n + d) := by unfold satN; omega
theorem satN_le (n : Nat) : satN n ≤ 1000000000001 := by unfold satN; omega
def noDot (l : List UInt8) : List UInt8 := l.filter (fun c => c != 46)
theorem take_byt {t : List UInt8} {i : Nat} (h : i < t.length) : t.take (i + 1) = t.take i ++ [byt t i] := by
 rw [List.take_succ_eq_append_getElem h]
 unfold byt
 rw [List.getD_eq_getElem?_getD, List.getElem?_eq_getElem h]; rfl
theorem noDot_dot {t : List UInt8} {i : Nat} (h : i < t.length) (hd : byt t i = 46) : noDot (t.take (i + 1)) = noDot (t.take i) := by
 rw [take_byt h, hd]; unfold noDot; simp
theorem noDot_dig {t : List UInt8} {i : Nat} (h : i < t.length) (hd : byt t i ≠ 46) : numOf (noDot (t.take (i + 1))) = 10 * numOf (noDot (t.take i)) + ((byt t i).toNat - 48) := by
 rw [take_byt h]; unfold noDot
 rw [List.filter_append, show [byt t i].filter (fun c => c != 46) = [byt t i] by simp [hd], numOf_snoc]
theorem filter_dig {l : List UInt8} (h : dgs l = true) : l.filter (fun c => c != 46) = l := by
 rw [List.filter_eq_self]
 intro c hc
 simp only [bne_iff_ne, ne_eq]
 rintro rfl
 exact dig_dot h hc
theorem noDot_form {t : List UInt8} (h : okF t = true) : numOf (noDot t) = numOf (cutW t ++ cutR t) := by
 obtain ⟨W, R, eW, eR, e, hW, hR, -⟩ := okF_parts h
 rw [eW, eR]
 unfold noDot
 rw [e, List.filter_append, List.filter_cons_of_neg (by simp), filter_dig hW, filter_dig hR]
theorem sat_val (neg : Bool) (n : Nat) : amV (sgZ neg (satN n)) = amV (sgZ neg n) ∧ amE (sgZ neg (satN n)) = amE (sgZ neg n) := by
 by_cases h : n ≤ 1000000000000
 ·have : satN n = n := by unfold satN; omega
  rw [this]; exact ⟨rfl, rfl⟩
 ·have h1 : amtB (sgZ neg n) = false := amtB_no (by unfold sgZ; split <;> omega)
  have h2 : amtB (sgZ neg (satN n)) = false := amtB_no (by unfold sgZ satN; split <;> omega)
  unfold amV amE
  rw [h1, h2]
  exact ⟨rfl, rfl⟩
set_option maxRecDepth 20000 in
set_option maxHeartbeats 1000000 in
theorem rmparse_neg (l U : List UInt8) (w : World) (hl : l.length ≤ 1000) (hng : ngL l = true) (hU : unL l = U) (hlU : l = 45 :: U) : Calls Tryd.prog 26 #[.string ⟨l.toArray⟩] w fun e w' => e = .returned (.tuple #[.int .i64 (mpV l), .int .i64 (mpE l)]) ∧ Below w.heap.size w w' := by
 have hB := Below.refl w.heap.size w
 have hnz := neg_zero_text l
 have hmf : mform l = (okF U && (!true || !(U == [48, 46, 48, 48]))) := by unfold mform; rw [hng, hU]
 rw [hng, hU] at hnz
 have hF := fun w => rform_any U w (by rw [hlU] at hl; simp at hl; omega)
 have hx : (⟨l.toArray⟩ : ByteArray).extract 1 l.length = ⟨U.toArray⟩ := by rw [Lib.extract_mk, hlU]; simp
 have hi : ∀ h, (⟨l.toArray⟩ : ByteArray)[0]'h = 45 := by subst hlU; exact fun _ => rfl
 have hlen : l.length = U.length + 1 := by rw [hlU]; simp
 have hul : U.length ≤ 1000 := by omega
 have h0n : (0 : Int) < (l.length : Int) := by omega
 have h1n : (1 : Int) ≤ (l.length : Int) := by omega
 have HLU := Lib.hid hlU
 clear hlen hlU
 cases hok : okF U
 ·have eV : mpV l = 0 := by unfold mpV; rw [hmf, hok]; rfl
  have eE : mpE l = 3 := by unfold mpE; rw [hmf, hok]; rfl
  rw [eV, eE]
  rw [hok] at hF
  have HF := Lib.hid hF
  clear hF eV eE hok hmf hnz hng hU
  go_enter Tryd.func26, Tryd.ntmps26
  go_wp2_with fail
  go_quiet (fail)
  replace hB := below_drewN hB nq
  generalize w.drewN nq = W1 at *
  go_wp2_with (first | (go_at_call 41; refine (HF.out _).mono ?_; rintro e w' ⟨rfl, rfl⟩))
  go_outline
  go_ret2
  exact ⟨rfl, hB⟩
 ·rw [hok] at hF
  have HF := Lib.hid hF
  cases hu0 : (U == [48, 46, 48, 48])
  ·rw [hu0] at hnz
   have hcmp : (l == [45, 48, 46, 48, 48]) = false := hnz
   have hmt : mform l = true := by rw [hmf, hok, hu0]; rfl
   have hf9 := okF_len hok
   have hnd := noDot_form hok
   by_cases h30 : 30 < l.length
   ·have eV : mpV l = 0 := by unfold mpV; rw [hmt, if_pos rfl, if_pos h30]
    have eE : mpE l = 2 := by unfold mpE; rw [hmt, if_pos rfl, if_pos h30]
    rw [eV, eE]
    have h30' : (30 : Int) < (l.length : Int) := by omega
    clear hF eV eE hok hmf hnz hng hU h30 hf9 hnd hmt
    go_enter Tryd.func26, Tryd.ntmps26
    go_wp2_with fail
    go_quiet (fail)
    replace hB := below_drewN hB nq
    generalize w.drewN nq = W1 at *
    go_wp2_with (first | (go_at_call 41; refine (HF.out _).mono ?_; rintro e w' ⟨rfl, rfl⟩))
    go_outline
    go_ret2
    exact ⟨rfl, hB⟩
   ·have h30' : decide ((30 : Int) < (l.length : Int)) = false := decide_eq_false (by omega)
    have eV : mpV l = amV (sgZ (ngL l) (numL l)) := by unfold mpV; rw [hmt, if_pos rfl, if_neg h30]
    have eE : mpE l = amE (sgZ (ngL l) (numL l)) := by unfold mpE; rw [hmt, if_pos rfl, if_neg h30]
    have hN : numL l = numOf (noDot U) := by unfold numL; rw [hU, hnd]
    rw [hng, hN, ← (sat_val true (numOf (noDot U))).1] at eV
    rw [hng, hN, ← (sat_val true (numOf (noDot U))).2] at eE
    have HEV := Lib.hid eV
    have HEE := Lib.hid eE
    have hi0 : ∀ i h, (⟨U.toArray⟩ : ByteArray)[i]'h = byt U i := fun i h => by
     have h2 : i < U.length := by rw [Lib.size_mk] at h; exact h
     unfold byt; rw [List.getD_eq_getElem?_getD, List.getElem?_eq_getElem h2]; rfl
    have HI := Lib.hid hi0
    have HF9 := Lib.hid hf9
    obtain ⟨m, hm⟩ : ∃ m, U.length = m := ⟨_, rfl⟩
    have hm9 : m ≤ 1000 := by omega
    have HM := Lib.hid hm
    clear hF eV eE hok hmf hnz hng hU h30 hf9 hnd hmt hN hi0
    go_enter Tryd.func26, Tryd.ntmps26
    go_wp2_with fail
    go_quiet (fail)
    replace hB := below_drewN hB nq
    generalize w.drewN nq = W1 at *
    go_wp2_with (first | (go_at_call 41; refine (HF.out _).mono ?_; rintro e w' ⟨rfl, rfl⟩))
    go_loopw [6, 7] (fun nv iv wr => ∃ i : Nat, i ≤ m ∧ iv = .int .i64 i ∧ nv = .int .i64 (satN (numOf (noDot (U.take i))) : Nat) ∧ W1 = wr) (fun _ iv _ => m - (intOf iv).toNat)
    case atStart => exact ⟨0, by omega, rfl, rfl, rfl⟩
    case round =>
     obtain ⟨i, hi9, rfl, rfl, rfl⟩ := hrel
     by_cases hlt : i < m
     ·have hlt' : (i : Int) < (m : Int) := by omega
      obtain ⟨b, hb⟩ : ∃ b, byt U i = b := ⟨_, rfl⟩
      have hcb : ∀ h, (⟨U.toArray⟩ : ByteArray)[i]'h = b := fun h => (HI.out i h).trans hb
      by_cases hdot : b = 46
      ·have HN : Hid (noDot (U.take (i + 1)) = noDot (U.take i)) := Lib.hid (noDot_dot (by rw [HM.out]; exact hlt) (hb.trans hdot))
       subst hdot
       clear hb
       obtain ⟨x, hx⟩ : ∃ x, numOf (noDot (U.take i)) = x := ⟨_, rfl⟩
       rw [hx]
       have HX := Lib.hid hx
       clear hx
       go_wp2_with fail
       go_roundw
       case rel => exact ⟨i + 1, by omega, by go_num, by rw [HN.out, HX.out], by first | rfl | trivial⟩
       case measure => simp [intOf]; omega
      ·have hdg := HF9.out.2.2.2 i (by rw [HM.out]; exact hlt) (by
        rintro rfl; apply hdot; rw [← hb]; exact HF9.out.2.1)
       rw [hb] at hdg
       obtain ⟨g1, g2⟩ := isDig_iff.1 hdg
       have HN : Hid (numOf (noDot (U.take (i + 1))) = 10 * numOf (noDot (U.take i)) + (b.toNat - 48)) := Lib.hid (by rw [← hb]; exact noDot_dig (by rw [HM.out]; exact hlt) (by rw [hb]; exact hdot))
       have hne : ((b.toNat : Int) != 46) = true := by
        simp only [bne_iff_ne, ne_eq]
        intro e; apply hdot; apply UInt8.toNat_inj.1; show b.toNat = 46; omega
       generalize hx : numOf (noDot (U.take i)) = x at *
       have hsx := satN_le x
       have hnx := satN_next x (b.toNat - 48)
       obtain ⟨d, hd⟩ : ∃ d, b.toNat - 48 = d := ⟨_, rfl⟩
       have hd9 : d ≤ 9 := by omega
       have hbd : (b.toNat : Int) - 48 = (d : Int) := by omega
       have hw8 : IntKind.u8.wrap ((b.toNat : Int) - 48) = (d : Int) := by rw [IntKind.wrap_u8]; omega
       rw [hd] at hnx HN
       obtain ⟨y, hy⟩ : ∃ y, satN x = y := ⟨_, rfl⟩
       rw [hy] at hsx hnx ⊢
       have hmin : min (10 * (y : Int) + (d : Int)) 1000000000001 = ((satN (10 * x + d) : Nat) : Int) := by rw [← hnx]; omega
       have hsx2 := satN_le (10 * x + d)
       obtain ⟨y2, hy2⟩ : ∃ y2, satN (10 * x + d) = y2 := ⟨_, rfl⟩
       rw [hy2] at hmin hsx2
       have HY2 : Hid (satN (numOf (noDot (U.take (i + 1)))) = y2) := Lib.hid (by rw [HN.out]; exact hy2)
       clear hb hdg hnx hy hy2 hx hd HN hdot g1 g2
       go_wp2_with fail
       go_roundw
       case rel => exact ⟨i + 1, by omega, by go_num, by rw [HY2.out], by first | rfl | trivial⟩
       case measure => simp [intOf]; omega
     ·obtain rfl : i = m := by omega
      have hge : decide ((i : Int) < (i : Int)) = false := by simp
      have hsx := satN_le (numOf (noDot (U.take i)))
      have htk : U.take i = U := List.take_of_length_le (by rw [HM.out]; exact Nat.le_refl _)
      rw [htk] at hsx ⊢
      generalize numOf (noDot U) = x at *
      have hC := fun w => checked_any (sgZ true (satN x)) w
      have eV := HEV.out
      have eE := HEE.out
      rw [show sgZ true (satN x) = - (satN x : Int) from rfl] at hC eV eE
      generalize satN x = y at *
      generalize amV (- (y : Int)) = V at *
      generalize amE (- (y : Int)) = E at *
      have HC := Lib.hid hC
      have HV2 := Lib.hid eV
      have HE2 := Lib.hid eE
      clear hC htk HEV HEE eV eE
      go_wp2_with (go_at_call 35; refine (HC.out _).mono ?_; rintro e w' ⟨rfl, rfl⟩)
      go_ret2
      exact ⟨by rw [HV2.out, HE2.out]; rfl, hB⟩
  ·have eV : mpV l = 0 := by unfold mpV; rw [hmf, hok, hu0]; rfl
   have eE : mpE l = 3 := by unfold mpE; rw [hmf, hok, hu0]; rfl
   rw [eV, eE]
   rw [hu0] at hnz
   have hcmp : (l == [45, 48, 46, 48, 48]) = true := hnz
   clear hF eV eE hok hmf hnz hu0 hng hU
   go_enter Tryd.func26, Tryd.ntmps26
   go_wp2_with fail
   go_quiet (fail)
   replace hB := below_drewN hB nq
   generalize w.drewN nq = W1 at *
   go_wp2_with (first | (go_at_call 41; refine (HF.out _).mono ?_; rintro e w' ⟨rfl, rfl⟩))
   go_outline
   go_ret2
   exact ⟨rfl, hB⟩
set_option maxRecDepth 20000 in
set_option maxHeartbeats 1000000 in
theorem rmparse_pos (l : List UInt8) (w : World) (hl : l.length ≤ 1000) (hng : ngL l = false) (hU : unL l = l) (z : UInt8) (r : List UInt8) (hlz : l = z :: r) (hz45 : z ≠ 45) : Calls Tryd.prog 26 #[.string ⟨l.toArray⟩] w fun e w' => e = .returned (.tuple #[.int .i64 (mpV l), .int .i64 (mpE l)]) ∧ Below w.heap.size w w' := by
 have hB := Below.refl w.heap.size w
 have hnz := neg_zero_text l
 have hmf : mform l = (okF l && (!false || !(l == [48, 46, 48, 48]))) := by unfold mform; rw [hng, hU]
 rw [hng, hU] at hnz
 have hF := fun w => rform_any l w (by exact hl)
 have hi : ∀ h, (⟨l.toArray⟩ : ByteArray)[0]'h = z := by subst hlz; exact fun _ => rfl
 have h0n : (0 : Int) < (l.length : Int) := by rw [hlz]; simp <;> omega
 have hzn : ((z.toNat : Int) == 45) = false := by
  simp only [beq_eq_false_iff_ne, ne_eq]
  intro e; apply hz45; apply UInt8.toNat_inj.1; show z.toNat = 45; omega
 clear hlz hz45
 cases hok : okF l
 ·have eV : mpV l = 0 := by unfold mpV; rw [hmf, hok]; rfl
  have eE : mpE l = 3 := by unfold mpE; rw [hmf, hok]; rfl
  rw [eV, eE]
  rw [hok] at hF
  have HF := Lib.hid hF
  clear hF eV eE hok hmf hnz hng hU
  go_enter Tryd.func26, Tryd.ntmps26
  go_wp2_with (first | (go_at_call 41; refine (HF.out _).mono ?_; rintro e w' ⟨rfl, rfl⟩))
  go_outline
  go_ret2
  exact ⟨rfl, hB⟩
 ·rw [hok] at hF
  have HF := Lib.hid hF
  have hcmp : (l == [45, 48, 46, 48, 48]) = false := hnz
  have hmt : mform l = true := by rw [hmf, hok]; rfl
  have hf9 := okF_len hok
  have hnd := noDot_form hok
  by_cases h30 : 30 < l.length
  ·have eV : mpV l = 0 := by unfold mpV; rw [hmt, if_pos rfl, if_pos h30]
   have eE : mpE l = 2 := by unfold mpE; rw [hmt, if_pos rfl, if_pos h30]
   rw [eV, eE]
   have h30' : (30 : Int) < (l.length : Int) := by omega
   clear hF eV eE hok hmf hnz hng hU h30 hf9 hnd hmt
   go_enter Tryd.func26, Tryd.ntmps26
   go_wp2_with (first | (go_at_call 41; refine (HF.out _).mono ?_; rintro e w' ⟨rfl, rfl⟩))
   go_outline
   go_ret2
   exact ⟨rfl, hB⟩
  ·have h30' : decide ((30 : Int) < (l.length : Int)) = false := decide_eq_false (by omega)
   have eV : mpV l = amV (sgZ (ngL l) (numL l)) := by unfold mpV; rw [hmt, if_pos rfl, if_neg h30]
   have eE : mpE l = amE (sgZ (ngL l) (numL l)) := by unfold mpE; rw [hmt, if_pos rfl, if_neg h30]
   have hN : numL l = numOf (noDot l) := by unfold numL; rw [hU, hnd]
   rw [hng, hN, ← (sat_val false (numOf (noDot l))).1] at eV
   rw [hng, hN, ← (sat_val false (numOf (noDot l))).2] at eE
   have HEV := Lib.hid eV
   have HEE := Lib.hid eE
   have hi0 : ∀ i h, (⟨l.toArray⟩ : ByteArray)[i]'h = byt l i := fun i h => by
    have h2 : i < l.length := by rw [Lib.size_mk] at h; exact h
    unfold byt; rw [List.getD_eq_getElem?_getD, List.getElem?_eq_getElem h2]; rfl
   have HI := Lib.hid hi0
   have HF9 := Lib.hid hf9
   obtain ⟨m, hm⟩ : ∃ m, l.length = m := ⟨_, rfl⟩
   have hm9 : m ≤ 1000 := by omega
   rw [hm] at h30'
   have HM := Lib.hid hm
   clear hF eV eE hok hmf hnz hng hU h30 hf9 hnd hmt hN hi0
   go_enter Tryd.func26, Tryd.ntmps26
   go_wp2_with (first | (go_at_call 41; refine (HF.out _).mono ?_; rintro e w' ⟨rfl, rfl⟩))
   go_loopw [6, 7] (fun nv iv wr => ∃ i : Nat, i ≤ m ∧ iv = .int .i64 i ∧ nv = .int .i64 (satN (numOf (noDot (l.take i))) : Nat) ∧ w = wr) (fun _ iv _ => m - (intOf iv).toNat)
   case atStart => exact ⟨0, by omega, rfl, rfl, rfl⟩
   case round =>
    obtain ⟨i, hi9, rfl, rfl, rfl⟩ := hrel
    by_cases hlt : i < m
    ·have hlt' : (i : Int) < (m : Int) := by omega
     obtain ⟨b, hb⟩ : ∃ b, byt l i = b := ⟨_, rfl⟩
     have hcb : ∀ h, (⟨l.toArray⟩ : ByteArray)[i]'h = b := fun h => (HI.out i h).trans hb
     by_cases hdot : b = 46
     ·have HN : Hid (noDot (l.take (i + 1)) = noDot (l.take i)) := Lib.hid (noDot_dot (by rw [HM.out]; exact hlt) (hb.trans hdot))
      subst hdot
      clear hb
      obtain ⟨x, hx⟩ : ∃ x, numOf (noDot (l.take i)) = x := ⟨_, rfl⟩
      rw [hx]
      have HX := Lib.hid hx
      clear hx
      go_wp2_with fail
      go_roundw
      case rel => exact ⟨i + 1, by omega, by go_num, by rw [HN.out, HX.out], by first | rfl | trivial⟩
      case measure => simp [intOf]; omega
     ·have hdg := HF9.out.2.2.2 i (by rw [HM.out]; exact hlt) (by
       rintro rfl; apply hdot; rw [← hb]; exact HF9.out.2.1)
      rw [hb] at hdg
      obtain ⟨g1, g2⟩ := isDig_iff.1 hdg
      have HN : Hid (numOf (noDot (l.take (i + 1))) = 10 * numOf (noDot (l.take i)) + (b.toNat - 48)) := Lib.hid (by rw [← hb]; exact noDot_dig (by rw [HM.out]; exact hlt) (by rw [hb]; exact hdot))
      have hne : ((b.toNat : Int) != 46) = true := by
       simp only [bne_iff_ne, ne_eq]
       intro e; apply hdot; apply UInt8.toNat_inj.1; show b.toNat = 46; omega
      generalize hx : numOf (noDot (l.take i)) = x at *
      have hsx := satN_le x
      have hnx := satN_next x (b.toNat - 48)
      obtain ⟨d, hd⟩ : ∃ d, b.toNat - 48 = d := ⟨_, rfl⟩
      have hd9 : d ≤ 9 := by omega
      have hbd : (b.toNat : Int) - 48 = (d : Int) := by omega
      have hw8 : IntKind.u8.wrap ((b.toNat : Int) - 48) = (d : Int) := by rw [IntKind.wrap_u8]; omega
      rw [hd] at hnx HN
      obtain ⟨y, hy⟩ : ∃ y, satN x = y := ⟨_, rfl⟩
      rw [hy] at hsx hnx ⊢
      have hmin : min (10 * (y : Int) + (d : Int)) 1000000000001 = ((satN (10 * x + d) : Nat) : Int) := by rw [← hnx]; omega
      have hsx2 := satN_le (10 * x + d)
      obtain ⟨y2, hy2⟩ : ∃ y2, satN (10 * x + d) = y2 := ⟨_, rfl⟩
      rw [hy2] at hmin hsx2
      have HY2 : Hid (satN (numOf (noDot (l.take (i + 1)))) = y2) := Lib.hid (by rw [HN.out]; exact hy2)
      clear hb hdg hnx hy hy2 hx hd HN hdot g1 g2
      go_wp2_with fail
      go_roundw
      case rel => exact ⟨i + 1, by omega, by go_num, by rw [HY2.out], by first | rfl | trivial⟩
      case measure => simp [intOf]; omega
    ·obtain rfl : i = m := by omega
     have hge : decide ((i : Int) < (i : Int)) = false := by simp
     have hsx := satN_le (numOf (noDot (l.take i)))
     have htk : l.take i = l := List.take_of_length_le (by rw [HM.out]; exact Nat.le_refl _)
     rw [htk] at hsx ⊢
     generalize numOf (noDot l) = x at *
     have hC := fun w => checked_any (sgZ false (satN x)) w
     have eV := HEV.out
     have eE := HEE.out
     rw [show sgZ false (satN x) =  (satN x : Int) from rfl] at hC eV eE
     generalize satN x = y at *
     generalize amV ( (y : Int)) = V at *
     generalize amE ( (y : Int)) = E at *
     have HC := Lib.hid hC
     have HV2 := Lib.hid eV
     have HE2 := Lib.hid eE
     clear hC htk HEV HEE eV eE
     go_wp2_with (go_at_call 35; refine (HC.out _).mono ?_; rintro e w' ⟨rfl, rfl⟩)
     go_ret2
     exact ⟨by rw [HV2.out, HE2.out]; rfl, hB⟩
theorem rmparse_any (l : List UInt8) (w : World) (hl : l.length ≤ 1000) : Calls Tryd.prog 26 #[.string ⟨l.toArray⟩] w fun e w' => e = .returned (.tuple #[.int .i64 (mpV l), .int .i64 (mpE l)]) ∧ Below w.heap.size w w' := by
 rcases sign_cases l with ⟨h1, h2⟩ | ⟨h1, h2⟩
 ·exact rmparse_neg l _ w hl h1 rfl h2
 ·rcases sign_head h1 with rfl | ⟨z, r, h3, h4⟩
  ·have hF := fun w => rform_any [] w (by simp)
   rw [show okF [] = false from rfl] at hF
   have eV : mpV [] = 0 := rfl
   have eE : mpE [] = 3 := rfl
   rw [eV, eE]
   have HF := Lib.hid hF
   have hB := Below.refl w.heap.size w
   clear hF eV eE h1 h2
   go_enter Tryd.func26, Tryd.ntmps26
   go_wp2_with (go_at_call 41; refine (HF.out _).mono ?_; rintro e w' ⟨rfl, rfl⟩)
   go_ret2
   exact ⟨rfl, hB⟩
  ·exact rmparse_pos l w hl h1 h2.symm z r h3 h4
theorem two_num {R : List UInt8} (hR : dgs R = true) (h2 : R.length = 2) : two (numOf R) = R ∧ numOf R < 100 := by
 match R, h2, hR with
 | [a, b], _, hR =>
  have d := (dgs_is hR).2
  have ha := isDig_iff.1 (d a (by simp))
  have hb := isDig_iff.1 (d b (by simp))
  have e : numOf [a, b] = 10 * (a.toNat - 48) + (b.toNat - 48) := by
   show 10 * (10 * 0 + (a.toNat - 48)) + (b.toNat - 48) = _
   omega
  rw [e]
  refine ⟨?_, by omega⟩
  unfold two
  rw [show (10 * (a.toNat - 48) + (b.toNat - 48)) / 10 = a.toNat - 48 by omega, show (10 * (a.toNat - 48) + (b.toNat - 48)) % 10 = b.toNat - 48 by omega,
   show 48 + (a.toNat - 48) = a.toNat by omega, show 48 + (b.toNat - 48) = b.toNat by omega]
  simp
theorem parse_text {l : List UInt8} (h : mpE l = 0) : txL (mpV l) = l := by
 unfold mpE at h
 by_cases hf : mform l = true
 ·rw [if_pos hf] at h
  by_cases h30 : 30 < l.length
  ·rw [if_pos h30] at h; omega
  ·rw [if_neg h30] at h
   have ha : amtB (sgZ (ngL l) (numL l)) = true := by
    unfold amE at h
    by_cases k : amtB (sgZ (ngL l) (numL l)) = true
    ·exact k
    ·rw [if_neg k] at h; omega
   have hv : mpV l = sgZ (ngL l) (numL l) := by unfold mpV amV; rw [if_pos hf, if_neg h30, if_pos ha]
   rw [hv]
   obtain ⟨W, R, eW, eR, eU, dW, dR, hR2, hW0, hz⟩ := form_parts hf
   have ht := two_num dR hR2
   have hN : numL l = 100 * numOf W + numOf R := by
    unfold numL; rw [eW, eR]
    have := num_two W ht.2
    rwa [ht.1] at this
   have hw : decDigits (numOf W) = W := dec_numOf W (dgs_is dW).2 (dgs_is dW).1 (by
    rcases hW0 with h1 | h1
    ·match W, h1, (dgs_is dW).1 with
     | [c], _, _ =>
      by_cases h48 : c = 48
      ·left; rw [h48]
      ·right; simpa using h48
    ·right; exact h1)
   have hb : bareA (numL l) = unL l := by
    unfold bareA
    rw [hN, show (100 * numOf W + numOf R) / 100 = numOf W by omega, show (100 * numOf W + numOf R) % 100 = numOf R by omega, hw, ht.1, eU]
   unfold txL
   rw [if_pos ha]
   unfold txA
   rcases sign_cases l with ⟨s1, s2⟩ | ⟨s1, s2⟩
   ·have hpos : 0 < numL l := by
     rcases Nat.eq_zero_or_pos (numL l) with h0 | h0
     ·exfalso
      rw [h0] at hb
      exact hz s1 (by rw [← hb]; decide +kernel)
     ·exact h0
    rw [s1]
    have hn : sgZ true (numL l) = -(numL l : Int) := rfl
    rw [hn, if_pos (by omega), show (-(numL l : Int)).natAbs = numL l by omega, hb]
    exact s2.symm
   ·rw [s1]
    have hn : sgZ false (numL l) = (numL l : Int) := rfl
    rw [hn, if_neg (by omega), show ((numL l : Int)).natAbs = numL l by omega, hb]
    exact s2.symm
 ·rw [if_neg hf] at h; omega
set_option maxRecDepth 20000 in
set_option maxHeartbeats 1600000 in
theorem law_mparse (s : ByteArray) (w : World) (hm : MaxC w) (ht : DTab w.heap.size w) (hv : ErrC w) : Calls Tryd.prog 10 #[.string s] w fun e w' => e = .returned (.bool true) ∧ Below w.heap.size w w' := by
 obtain ⟨l, hs⟩ : ∃ l : List UInt8, s = ⟨l.toArray⟩ := ⟨s.data.toList, by cases s; simp⟩
 subst hs
 have hB := Below.refl w.heap.size w
 have HT := Lib.hid ht
 have HM := Lib.hid hm
 have HV := Lib.hid hv
 clear ht hm hv
 by_cases hl : 200 < l.length
 ·have hl' : (200 : Int) < (l.length : Int) := by omega
  clear hl
  go_enter Tryd.func10, Tryd.ntmps10
  go_wp2_with (go_at_call 12; refine (mawake_any _ HT.out).mono ?_; rintro e w' ⟨rfl, hb⟩; replace hB := below_more hB hb; clear hb)
  go_ret
  exact ⟨rfl, hB⟩
 ·have hl' : decide ((200 : Int) < (l.length : Int)) = false := decide_eq_false (by omega)
  have h1 := fun w a b => mparse_any l w a b (by omega)
  have h2 := fun w => rmparse_any l w (by omega)
  have hp := parse_text (l := l)
  by_cases hE : mpE l = 0
  ·have h3 := fun w h => mtext_any (mpV l) w h
   rw [hp hE] at h3
   rw [hE] at h1 h2
   generalize mpV l = V at *
   have H1 := Lib.hid h1
   have H2 := Lib.hid h2
   have H3 := Lib.hid h3
   clear h1 h2 h3 hE hp hl
   go_enter Tryd.func10, Tryd.ntmps10
   go_wp2_with (first | (go_at_call 12; refine (mawake_any _ HT.out).mono ?_; rintro e w' ⟨rfl, hb⟩; replace hB := below_more hB hb; clear hb) | (go_at_call 23; refine (H3.out _ (DTab.up HT.out hB)).mono ?_; rintro e w' ⟨rfl, hb⟩; replace hB := below_more hB hb; clear hb) | (go_at_call 26; refine (H2.out _).mono ?_; rintro e w' ⟨rfl, hb⟩; replace hB := below_more hB hb; clear hb) | (go_at_call 25; refine (H1.out _ (HM.out.up hB) (HV.out.up hB)).mono ?_; rintro e w' ⟨rfl, hb⟩; replace hB := below_more hB hb; clear hb))
   go_ret
   exact ⟨rfl, hB⟩
  ·generalize mpV l = V at *
   generalize mpE l = E at *
   have hne : (E != 0) = true := by simpa using hE
   have H1 := Lib.hid h1
   have H2 := Lib.hid h2
   clear h1 h2 hE hp hl
   go_enter Tryd.func10, Tryd.ntmps10
   go_wp2_with (first | (go_at_call 12; refine (mawake_any _ HT.out).mono ?_; rintro e w' ⟨rfl, hb⟩; replace hB := below_more hB hb; clear hb) | (go_at_call 26; refine (H2.out _).mono ?_; rintro e w' ⟨rfl, hb⟩; replace hB := below_more hB hb; clear hb) | (go_at_call 25; refine (H1.out _ (HM.out.up hB) (HV.out.up hB)).mono ?_; rintro e w' ⟨rfl, hb⟩; replace hB := below_more hB hb; clear hb))
   go_ret
   exact ⟨rfl, hB⟩
end Go.Proofs.YthndbonfcdphgaaDoor
