/- Contracts and the law of MoneyText, part 1: what was proved of each, callees first. -/
import Derived.Lib.ItoaNum
import Derived.Lib.AppendIntMem
import Derived.Lib.ItoaLen
import Derived.Shelf.Strings.SlTrimAscii
import Derived.Lib.AtoiErrMem
import Derived.LoopTactic
import Derived.Laws.BytesString
import Derived.Laws.Cells
import Derived.WideShapes
import Derived.WalkLawsBesides
import Derived.Test.YthndbonfcdphgaaDoorT2
namespace Go.Proofs.YthndbonfcdphgaaDoor
open Go.Lib (decDigits)
theorem dec_head (n : Nat) (hn : 0 < n) : (decDigits n).head? ≠ some 48 ∧ decDigits n ≠ [] := by
 induction n using Nat.strongRecOn with
 | _ n ih =>
  rw [decDigits]
  split
  ·rename_i h
   refine ⟨?_, by simp⟩
   simp only [List.head?_cons, ne_eq, Option.some.injEq]
   intro e
   have := congrArg UInt8.toNat e
   simp at this
   omega
  ·rename_i h
   have := ih (n / 10) (by omega) (by omega)
   refine ⟨?_, by simp⟩
   rw [List.head?_append]
   cases hd : (decDigits (n / 10)).head? with
   | none => rw [List.head?_eq_none_iff] at hd; exact absurd hd this.2
   | some x => simp; intro e; subst e; exact this.1 hd
open Go.RowKit
theorem trim_minus (D : List UInt8) : Lib.trimPrefix (45 :: D) [45] = D ∧ Lib.hasPrefix (45 :: D) [45] = true := by
 constructor <;> simp [Lib.trimPrefix, Lib.hasPrefix]

/- A text is cut at the first byte of a kind. -/
theorem wpList_byte_str {P : Program} {w : World} {ops : Array Oper} {rest : List Oper} {o : Oper} {a : Act} {Q : Exit → Act → World → Prop} (hg : o.guard = none) (src dst : TypeId) (x : Operand) (hop : o.op = Op.convert src dst x)
  (e : TypeId) (hs : P.underlying src = some (.slice e)) (he : P.underlying e = some (.int .u8)) (hd : P.underlying dst = some .string)
  (X : Int) (b : UInt8) (hX : X = (b.toNat : Int)) (c : Nat) (hx : a.eval x = .slice (some ⟨w.heap.size, 0, none⟩) 1 c)
  (h : wpList P ops Q rest (a.put o.dst (.string ⟨#[b]⟩)) (w.alloc (.cells #[.int .u8 X] e))) : wpList P ops Q (o :: rest) a (w.alloc (.cells #[.int .u8 X] e)) := by
 refine wpList_plain hg fun K hK => ?_
 have hrun : (convert src dst (.slice (some ⟨w.heap.size, 0, none⟩) 1 c)).run P (w.alloc (.cells #[.int .u8 X] e)) = .ok (.string ⟨#[b]⟩) (w.alloc (.cells #[.int .u8 X] e)) := by
  rw [run_convert_bytes_string _ src dst e _ _ _ hs he hd]
  have hl := run_loadCells_list (P := P) (w := w.alloc (.cells #[.int .u8 X] e)) ⟨w.heap.size, 0, none⟩ [.int .u8 X] (fun j v hj => by
   match j, hj with
   | 0, hj =>
    simp at hj
    subst hj
    unfold World.cell? Addr.add
    rw [if_pos rfl]
    dsimp only
    rw [heap_alloc_new]
    simp)
  rw [run_bytesToString (P := P) (w.alloc (.cells #[.int .u8 X] e)) ⟨w.heap.size, 0, none⟩ 1 c [X] (by simpa using hl)]
  subst hX
  simp [ByteArray.empty, ByteArray.emptyWithCapacity, ByteArray.push]
  rfl
 unfold Oper.wp
 simp [execOp, hop, hx, hrun, Result.andThen]
 exact hK _ _ h
set_option maxRecDepth 20000 in
theorem rdig_one (d : Nat) (w : World) (hd : d < 10) : Calls Tryd.prog 38 #[.int .i64 (d : Int)] w fun e w' => e = .returned (.string ⟨(decDigits d).toArray⟩) ∧ Below w.heap.size w w' := by
 rw [dec_small hd]
 obtain ⟨b, hb⟩ : ∃ b, UInt8.ofNat (48 + d) = b := ⟨_, rfl⟩
 have hbt : ((48 : Int) + (d : Int)) = (b.toNat : Int) := by rw [← hb]; simp; omega
 rw [hb]
 have h10 : decide (10 ≤ (d : Int)) = false := decide_eq_false (by omega)
 have hB : Below w.heap.size w (w.alloc (.cells #[.int .u8 (b.toNat : Int)] 5)) := (Below.refl _ _).alloc (Nat.le_refl _) _
 clear hb
 go_enter Tryd.func38, Tryd.ntmps38
 go_wp2_with (refine wpList_byte_str rfl 55 9 (.tmp 15) rfl 5 Tryd.underlying55 Tryd.underlying5 Tryd.underlying9 _ b rfl 1 rfl ?_)
 go_ret
 exact ⟨rfl, hB⟩
set_option maxHeartbeats 800000 in
set_option maxRecDepth 20000 in
theorem rdig_any (k : Nat) : ∀ (n : Nat) (w : World), n < 10 ^ (k + 1) → k ≤ 17 → Calls Tryd.prog 38 #[.int .i64 (n : Int)] w fun e w' => e = .returned (.string ⟨(decDigits n).toArray⟩) ∧ Below w.heap.size w w' := by
 induction k with
 | zero => intro n w hn _; exact rdig_one n w (by omega)
 | succ k ih =>
  intro n w hn hk
  by_cases h10 : n < 10
  ·exact rdig_one n w h10
  ·rw [Nat.pow_succ] at hn
   have hI1 := fun w => ih (n / 10) w (by omega) (by omega)
   have hI2 := fun w => rdig_one (n % 10) w (by omega)
   have hl := dec_len k (n / 10) (by omega)
   have hle : 10 ^ (k + 1) ≤ 10 ^ 17 := Nat.pow_le_pow_right (by omega) (by omega)
   rw [decDigits, dif_neg h10]
   have hone : decDigits (n % 10) = [UInt8.ofNat (48 + n % 10)] := dec_small (by omega)
   rw [hone] at hI2
   have hw1 : (n : Int) / 10 = ((n / 10 : Nat) : Int) := by omega
   have hw2 : (n : Int) % 10 = ((n % 10 : Nat) : Int) := by omega
   have hn9 : n ≤ 9000000000000000000 := by omega
   have ho1 : n / 10 ≤ 900000000000000000 := by omega
   have ho2 : n % 10 ≤ 9 := by omega
   have h10' : (10 : Int) ≤ (n : Int) := by omega
   generalize UInt8.ofNat (48 + n % 10) = b at *
   generalize decDigits (n / 10) = D at *
   generalize n / 10 = x at *
   generalize n % 10 = y at *
   have hov : ¬ 9223372036854775807 < D.length + 1 := by omega
   have HI1 := Lib.hid hI1
   have HI2 := Lib.hid hI2
   have hB := Below.refl w.heap.size w
   clear hI1 hI2 ih hone hn hle h10
   go_enter Tryd.func38, Tryd.ntmps38
   go_wp2_with (go_at_call 38; first | ((with_reducible refine (HI1.out _).mono ?_); rintro e w' ⟨rfl, hb⟩; replace hB := below_more hB hb; clear hb) | ((with_reducible refine (HI2.out _).mono ?_); rintro e w' ⟨rfl, hb⟩; replace hB := below_more hB hb; clear hb))
   go_ret
   exact ⟨dret_str (bytes_eq (by simp [ByteArray.data_append])), hB⟩
theorem two_dig (a : Nat) : decDigits (a / 10 % 10) ++ decDigits (a % 10) = two (a % 100) := by
 rw [dec_small (by omega), dec_small (by omega)]
 unfold two
 rw [show a % 100 / 10 = a / 10 % 10 by omega, show a % 100 % 10 = a % 10 by omega]
 rfl
set_option maxHeartbeats 800000 in
theorem rmtext_pos (n : Nat) (w : World) (hn : n ≤ 1000000000000) :
  Calls Tryd.prog 24 #[.int .i64 (n : Int)] w fun e w' => e = .returned (.string ⟨(bareA n).toArray⟩) ∧ Below w.heap.size w w' := by
 have hV := fun w => rmvalid_any n w
 rw [amtB_mk (by omega) (by omega)] at hV
 have hI1 := fun w => rdig_any 10 (n / 100) w (by omega) (by omega)
 have hI2 := fun w => rdig_one (n / 10 % 10) w (by omega)
 have hI3 := fun w => rdig_one (n % 10) w (by omega)
 have hl := dec_len 10 (n / 100) (by omega)
 unfold bareA
 rw [← two_dig]
 have hw1 : (n : Int) / 100 = ((n / 100 : Nat) : Int) := by omega
 have hw2 : (n : Int) / 10 = ((n / 10 : Nat) : Int) := by omega
 have hw3 : ((n / 10 : Nat) : Int) % 10 = ((n / 10 % 10 : Nat) : Int) := by omega
 have hw4 : (n : Int) % 10 = ((n % 10 : Nat) : Int) := by omega
 have ho1 : n / 100 ≤ 10000000000 := by omega
 have ho2 : n / 10 ≤ 100000000000 := by omega
 have ho3 : n / 10 % 10 ≤ 9 := by omega
 have ho4 : n % 10 ≤ 9 := by omega
 have hl2 := dec_len 0 (n / 10 % 10) (by omega)
 have hl3 := dec_len 0 (n % 10) (by omega)
 have hn0 : decide ((n : Int) < 0) = false := decide_eq_false (by omega)
 generalize decDigits (n / 100) = D at *
 generalize decDigits (n / 10 % 10) = E at *
 generalize decDigits (n % 10) = F at *
 generalize n / 10 % 10 = y at *
 generalize n % 10 = z at *
 generalize n / 100 = x at *
 generalize n / 10 = u at *
 have hov1 : ¬ 9223372036854775807 < D.length + 1 := by omega
 have hov2 : ¬ 9223372036854775807 < D.length + 1 + E.length := by omega
 have hov3 : ¬ 9223372036854775807 < D.length + 1 + E.length + F.length := by omega
 have HV := Lib.hid hV
 have HI1 := Lib.hid hI1
 have HI2 := Lib.hid hI2
 have HI3 := Lib.hid hI3
 clear hV hI1 hI2 hI3 hl hl2 hl3
 have hB := Below.refl w.heap.size w
 go_enter Tryd.func24, Tryd.ntmps24
 go_wp2_with (first | (go_at_call 14; refine (HV.out _).mono ?_; rintro e w' ⟨rfl, rfl⟩) | (go_at_call 38; first | ((with_reducible refine (HI1.out _).mono ?_); rintro e w' ⟨rfl, hb⟩; replace hB := below_more hB hb; clear hb) | ((with_reducible refine (HI2.out _).mono ?_); rintro e w' ⟨rfl, hb⟩; replace hB := below_more hB hb; clear hb) | ((with_reducible refine (HI3.out _).mono ?_); rintro e w' ⟨rfl, hb⟩; replace hB := below_more hB hb; clear hb)))
 go_ret
 exact ⟨dret_str (bytes_eq (by simp [ByteArray.data_append])), hB⟩
theorem bareA_len (n : Nat) (h : n ≤ 1000000000000) : (bareA n).length ≤ 14 := by
 unfold bareA two
 have := dec_len 10 (n / 100) (by omega)
 simp; omega
theorem rmtext_any (n : Int) (w : World) : Calls Tryd.prog 24 #[.int .i64 n] w fun e w' => e = .returned (.string ⟨(txL n).toArray⟩) ∧ Below w.heap.size w w' := by
 unfold txL
 have hB := Below.refl w.heap.size w
 cases h : amtB n
 ·have hV := fun w => rmvalid_any n w
  rw [h] at hV
  have HV := Lib.hid hV
  clear hV
  go_enter Tryd.func24, Tryd.ntmps24
  go_wp2_with (go_at_call 14; refine (HV.out _).mono ?_; rintro e w' ⟨rfl, rfl⟩)
  go_ret
  exact ⟨rfl, hB⟩
 ·obtain ⟨h1, h2⟩ := amtB_is h
  rw [if_pos rfl]
  unfold txA
  by_cases hn : n < 0
  ·rw [if_pos hn]
   obtain ⟨c, rfl⟩ : ∃ c : Nat, n = -(c : Int) := ⟨n.natAbs, by omega⟩
   rw [show (-(c : Int)).natAbs = c by omega]
   have hV := fun w => rmvalid_any (-(c : Int)) w
   rw [h] at hV
   have hT := fun w => rmtext_pos c w (by omega)
   have hl := bareA_len c (by omega)
   have hc0 : 0 < c := by omega
   generalize bareA c = D at *
   have hov1 : ¬ 9223372036854775807 < 1 + D.length := by omega
   have HV := Lib.hid hV
   have HT := Lib.hid hT
   clear hV hT hl h
   go_enter Tryd.func24, Tryd.ntmps24
   go_wp2_with (first | (go_at_call 14; refine (HV.out _).mono ?_; rintro e w' ⟨rfl, rfl⟩) | (go_at_call 24; refine (HT.out _).mono ?_; rintro e w' ⟨rfl, hb⟩; replace hB := below_more hB hb; clear hb))
   go_ret
   exact ⟨dret_str (bytes_eq (by simp [ByteArray.data_append])), hB⟩
  ·rw [if_neg hn]
   have := rmtext_pos n.natAbs w (by omega)
   rw [show ((n.natAbs : Nat) : Int) = n by omega] at this
   exact this
theorem dec_nil (n : Nat) : decDigits n ≠ [] := by
 rw [decDigits]; split <;> simp
theorem dec_dgs (n : Nat) : dgs (decDigits n) = true := dgs_mk (dec_nil n) (dec_facts n).1
theorem dec_lead (n : Nat) : (decDigits n).length ≤ 1 ∨ (decDigits n).head? ≠ some 48 := by
 rcases Nat.eq_zero_or_pos n with rfl | h
 ·left; rw [dec_small (by omega)]; simp
 ·right; exact (dec_head n h).1
theorem bare_form (a : Nat) : okF (bareA a) = true ∧ cutW (bareA a) = decDigits (a / 100) ∧ cutR (bareA a) = two (a % 100) ∧ numOf (cutW (bareA a) ++ cutR (bareA a)) = a := by
 have hW := dec_dgs (a / 100)
 have hR := two_dgs (r := a % 100) (by omega)
 have hc := cut_form (R := two (a % 100)) hW
 refine ⟨okF_mk hW hR rfl (dec_lead _), hc.1, hc.2, ?_⟩
 show numOf (cutW (decDigits (a / 100) ++ 46 :: two (a % 100)) ++ cutR (decDigits (a / 100) ++ 46 :: two (a % 100))) = a
 rw [hc.1, hc.2, num_two _ (by omega), (dec_facts _).2]
 omega
theorem bare_sign (a : Nat) : unL (bareA a) = bareA a ∧ ngL (bareA a) = false := by
 have h : bareA a ≠ [] ∧ (bareA a).head? ≠ some 45 := by
  unfold bareA
  obtain ⟨c, t, e⟩ := List.exists_cons_of_ne_nil (dec_nil (a / 100))
  have hc := (dec_facts (a / 100)).1 c (by rw [e]; simp)
  rw [e]
  refine ⟨by simp, ?_⟩
  simp only [List.cons_append, List.head?_cons, ne_eq, Option.some.injEq]
  rintro rfl
  exact absurd hc (by decide)
 rcases sign_cases (bareA a) with ⟨h1, h2⟩ | ⟨h1, h2⟩
 ·exfalso
  rw [h2] at h
  exact h.2 rfl
 ·exact ⟨h2.symm, h1⟩
theorem minus_sign (U : List UInt8) : unL (45 :: U) = U ∧ ngL (45 :: U) = true := by
 unfold unL ngL
 exact ⟨(trim_minus U).1, (trim_minus U).2⟩
theorem text_back {n : Int} (h : amtB n = true) : mpV (txA n) = n ∧ mpE (txA n) = 0 := by
 obtain ⟨h1, h2⟩ := amtB_is h
 have hl := bareA_len n.natAbs (by omega)
 have hf := bare_form n.natAbs
 have hs := bare_sign n.natAbs
 unfold txA
 by_cases hn : n < 0
 ·rw [if_pos hn]
  have hm := minus_sign (bareA n.natAbs)
  have hz : (bareA n.natAbs == [48, 46, 48, 48]) = false := by
   simp only [beq_eq_false_iff_ne, ne_eq]
   intro e
   have e2 := hf.2.2.2
   rw [e] at e2
   have e3 : numOf (cutW [48, 46, 48, 48] ++ cutR [48, 46, 48, 48]) = 0 := by decide +kernel
   omega
  have hmf : mform (45 :: bareA n.natAbs) = true := by unfold mform; rw [hm.1, hm.2, hf.1, hz]; rfl
  have hN : numL (45 :: bareA n.natAbs) = n.natAbs := by unfold numL; rw [hm.1]; exact hf.2.2.2
  have hv : sgZ true n.natAbs = n := by unfold sgZ; rw [if_pos rfl]; omega
  unfold mpV mpE
  rw [hmf, if_pos rfl, if_pos rfl, if_neg (by simp; omega), if_neg (by simp; omega), hm.2, hN, hv]
  unfold amV amE
  rw [h]; exact ⟨rfl, rfl⟩
 ·rw [if_neg hn]
  have hmf : mform (bareA n.natAbs) = true := by unfold mform; rw [hs.1, hs.2, hf.1]; rfl
  have hN : numL (bareA n.natAbs) = n.natAbs := by unfold numL; rw [hs.1]; exact hf.2.2.2
  have hv : sgZ false n.natAbs = n := by unfold sgZ; rw [if_neg (by decide)]; omega
  unfold mpV mpE
  rw [hmf, if_pos rfl, if_pos rfl, if_neg (by omega), if_neg (by omega), hs.2, hN, hv]
  unfold amV amE
  rw [h]; exact ⟨rfl, rfl⟩
theorem txL_len (n : Int) : (txL n).length ≤ 15 := by
 unfold txL
 by_cases h : amtB n = true
 ·rw [if_pos h]
  obtain ⟨h1, h2⟩ := amtB_is h
  have := bareA_len n.natAbs (by omega)
  unfold txA
  split
  ·simp; omega
  ·omega
 ·rw [if_neg h]; simp
set_option maxRecDepth 20000 in
set_option maxHeartbeats 1600000 in
theorem law_mtext (n : Int) (w : World) (hm : MaxC w) (ht : DTab w.heap.size w) (hv : ErrC w) : Calls Tryd.prog 9 #[.int .i64 n] w fun e w' => e = .returned (.bool true) ∧ Below w.heap.size w w' := by
 have hB := Below.refl w.heap.size w
 have h1 := fun w h => mtext_any n w h
 have h2 := fun w => rmtext_any n w
 have h3 := fun w a b => mparse_any (txL n) w a b (by have := txL_len n; omega)
 have h4 := fun w => rmvalid_any n w
 have hl := txL_len n
 have HT := Lib.hid ht
 have HM := Lib.hid hm
 have HV := Lib.hid hv
 clear ht hm hv
 cases hA : amtB n
 ·rw [hA] at h4
  generalize txL n = T at *
  generalize mpV T = V at *
  generalize mpE T = E at *
  have H1 := Lib.hid h1
  have H2 := Lib.hid h2
  have H3 := Lib.hid h3
  have H4 := Lib.hid h4
  clear h1 h2 h3 h4 hA
  go_enter Tryd.func9, Tryd.ntmps9
  go_wp2_with (first | (go_at_call 12; refine (mawake_any _ HT.out).mono ?_; rintro e w' ⟨rfl, hb⟩; replace hB := below_more hB hb; clear hb) | (go_at_call 23; refine (H1.out _ (DTab.up HT.out hB)).mono ?_; rintro e w' ⟨rfl, hb⟩; replace hB := below_more hB hb; clear hb) | (go_at_call 24; refine (H2.out _).mono ?_; rintro e w' ⟨rfl, hb⟩; replace hB := below_more hB hb; clear hb) | (go_at_call 25; refine (H3.out _ (HM.out.up hB) (HV.out.up hB)).mono ?_; rintro e w' ⟨rfl, hb⟩; replace hB := below_more hB hb; clear hb) | (go_at_call 14; refine (H4.out _).mono ?_; rintro e w' ⟨rfl, rfl⟩))
  go_ret
  exact ⟨rfl, hB⟩
 ·rw [hA] at h4
  have hb := text_back hA
  have hx : txL n = txA n := by unfold txL; rw [if_pos hA]
  rw [hx] at h1 h2 h3
  rw [hb.1, hb.2] at h3
  generalize txA n = T at *
  have H1 := Lib.hid h1
  have H2 := Lib.hid h2
  have H3 := Lib.hid h3
  have H4 := Lib.hid h4
  clear h1 h2 h3 h4 hA hb hx
  go_enter Tryd.func9, Tryd.ntmps9
  go_wp2_with (first | (go_at_call 12; refine (mawake_any _ HT.out).mono ?_; rintro e w' ⟨rfl, hb⟩; replace hB := below_more hB hb; clear hb) | (go_at_call 23; refine (H1.out _ (DTab.up HT.out hB)).mono ?_; rintro e w' ⟨rfl, hb⟩; replace hB := below_more hB hb; clear hb) | (go_at_call 24; refine (H2.out _).mono ?_; rintro e w' ⟨rfl, hb⟩; replace hB := below_more hB hb; clear hb) | (go_at_call 25; refine (H3.out _ (HM.out.up hB) (HV.out.up hB)).mono ?_; rintro e w' ⟨rfl, hb⟩; replace hB := below_more hB hb; clear hb) | (go_at_call 14; refine (H4.out _).mono ?_; rintro e w' ⟨rfl, rfl⟩))
  go_ret
  exact ⟨rfl, hB⟩
end Go.Proofs.YthndbonfcdphgaaDoor
