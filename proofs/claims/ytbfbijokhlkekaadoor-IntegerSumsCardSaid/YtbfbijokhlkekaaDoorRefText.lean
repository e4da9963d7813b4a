/- The reference's 'Text'. -/
import Derived.Test.YtbfbijokhlkekaaDoorText
import Derived.Test.YtbfbijokhlkekaaDoorReadNat
import Derived.Test.YtbfbijokhlkekaaDoorRefTrim
namespace Go.Proofs.YtbfbijokhlkekaaDoor
open Go.RowKit
open Go.Lib (decDigits)

theorem padk_front (k d : Nat) : padk (k + 1) d = UInt8.ofNat (48 + d / 10 ^ k % 10) :: padk k d := by
  induction k generalizing d with
  | zero => simp [padk]
  | succ k ih =>
    rw [padk, ih (d / 10)]
    have e : d / 10 / 10 ^ k = d / 10 ^ (k + 1) := by rw [Nat.div_div_eq_div_mul, Nat.pow_succ, Nat.mul_comm]
    rw [e, List.cons_append]
    rfl
theorem padk_mod (k d : Nat) : padk k (d % 10 ^ k) = padk k d := by
  induction k generalizing d with
  | zero => rfl
  | succ k ih =>
    rw [padk, padk]
    have e1 : d % 10 ^ (k + 1) / 10 = (d / 10) % 10 ^ k := by
      rw [Nat.pow_succ, Nat.mul_comm, Nat.mod_mul_right_div_self]
    have e2 : d % 10 ^ (k + 1) % 10 = d % 10 := by
      rw [Nat.pow_succ, Nat.mul_comm, Nat.mod_mul_right_mod]
    rw [e1, e2, ih]
/-- The digits of the highest limb, as far as k rounds have made them. -/
def topTxt (d k : Nat) : List UInt8 := if d < 10 ^ k then decDigits d else padk k d
theorem topTxt_step {d k : Nat} (h : 10 ^ k ≤ d) : topTxt d (k + 1) = UInt8.ofNat (48 + d / 10 ^ k % 10) :: topTxt d k := by
  unfold topTxt
  rw [if_neg (by omega : ¬ d < 10 ^ k)]
  split
  · rename_i h2
    have hp : 0 < 10 ^ k := Nat.pow_pos (by omega)
    have hq : d / 10 ^ k < 10 := by rw [Nat.div_lt_iff_lt_mul hp]; rw [Nat.pow_succ] at h2; omega
    have hq0 : 0 < d / 10 ^ k := Nat.div_pos h hp
    have := dec_pad k (d / 10 ^ k) (d % 10 ^ k) hq0 (Nat.mod_lt _ hp)
    rw [Nat.div_add_mod', padk_mod, dec_small hq] at this
    rw [this, Nat.mod_eq_of_lt hq]
    rfl
  · exact padk_front k d
theorem topTxt_same {d k : Nat} (h : d < 10 ^ k) : topTxt d (k + 1) = topTxt d k := by
  unfold topTxt
  rw [if_pos h, if_pos (by rw [Nat.pow_succ]; omega)]
theorem topTxt_zero {d : Nat} (h : 0 < d) : topTxt d 0 = [] := by unfold topTxt; rw [if_neg (by simp; omega)]; rfl

/-- 'string(b)' of a new row of one byte. -/
theorem wpList_byte_str {P : Program} {w : World} {ops : Array Oper} {rest : List Oper} {o : Oper} {a : Act} {Q : Exit → Act → World → Prop} (hg : o.guard = none) (src dst : TypeId) (x : Operand) (hop : o.op = Op.convert src dst x)
    (e : TypeId) (hs : P.underlying src = some (.slice e)) (he : P.underlying e = some (.int .u8)) (hd : P.underlying dst = some .string)
    (X : Int) (b : UInt8) (hX : X = (b.toNat : Int)) (c : Nat) (hx : a.eval x = .slice (some ⟨w.heap.size, 0, none⟩) 1 c)
    (h : wpList P ops Q rest (a.put o.dst (.string ⟨#[b]⟩)) (w.alloc (.cells #[.int .u8 X] e))) : wpList P ops Q (o :: rest) a (w.alloc (.cells #[.int .u8 X] e)) := by
  refine wpList_plain hg fun K hK => ?_
  have hrun : (convert src dst (.slice (some ⟨w.heap.size, 0, none⟩) 1 c)).run P (w.alloc (.cells #[.int .u8 X] e)) = .ok (.string ⟨#[b]⟩) (w.alloc (.cells #[.int .u8 X] e)) := by
    rw [run_convert_bytes_string _ src dst e _ _ _ hs he hd]
    have hl := run_loadCells_list (P := P) (w := w.alloc (.cells #[.int .u8 X] e)) ⟨w.heap.size, 0, none⟩ [.int .u8 X] (fun j v hj => by
      match j, hj with
      | 0, hj =>
        simp at hj
        subst hj
        unfold World.cell? Addr.add
        rw [if_pos rfl]
        dsimp only
        rw [heap_alloc_new]
        simp)
    rw [run_bytesToString (P := P) (w.alloc (.cells #[.int .u8 X] e)) ⟨w.heap.size, 0, none⟩ 1 c [X] (by simpa using hl)]
    subst hX
    simp [ByteArray.empty, ByteArray.emptyWithCapacity, ByteArray.push]
    rfl
  unfold Oper.wp
  simp [execOp, hop, hx, hrun, Result.andThen]
  exact hK _ _ h

theorem str_cons (b : UInt8) (l : List UInt8) : (⟨#[b]⟩ : ByteArray) ++ ⟨l.toArray⟩ = ⟨(b :: l).toArray⟩ := by
  apply WideShapes.bytes_inj
  simp

/-- The text after i limbs. -/
def rtx (L : List Nat) (i : Nat) : List UInt8 := if i < L.length then lowPads 4 (L.take i) else decDigits (valB 10000 L)
theorem rtx_low {L : List Nat} {i : Nat} (h : i + 1 < L.length) : rtx L (i + 1) = padk 4 (nth L i) ++ rtx L i := by
  unfold rtx
  rw [if_pos h, if_pos (by omega), List.take_succ_eq_append_getElem (by omega), ← nth_lt (by omega)]
  generalize L.take i = M
  have key : ∀ M : List Nat, lowPads 4 (M ++ [nth L i]) = padk 4 (nth L i) ++ lowPads 4 M := by
    intro M
    induction M with
    | nil => simp [lowPads]
    | cons x r ih => simp only [List.cons_append, lowPads, ih, List.append_assoc]
  exact key M
theorem rtx_top {L : List Nat} {i : Nat} (h : i + 1 = L.length) (hl : ∀ d ∈ L, d < 10000) (ht : nth L i ≠ 0) : rtx L (i + 1) = topTxt (nth L i) 4 ++ rtx L i := by
  unfold rtx
  rw [if_neg (by omega), if_pos (by omega)]
  have hd : nth L i < 10000 := nth_all hl (by omega) i
  have := dec_limbs 4 (L.take i) (nth L i) (by omega) (fun d hd => hl d (List.mem_of_mem_take hd))
  have e2 : L.take i ++ [nth L i] = L := by
    rw [nth_lt (by omega), List.take_append_getElem]
    exact List.take_of_length_le (by omega)
  rw [e2] at this
  rw [show (10000 : Nat) = 10 ^ 4 from rfl, this]
  unfold topTxt
  rw [if_pos (by omega)]

theorem rtx_len {L : List Nat} {i : Nat} (hi : i ≤ L.length) (h0 : L.length ≠ 0) (hl : ∀ d ∈ L, d < 10000) (ht : nth L (L.length - 1) ≠ 0) : (rtx L i).length ≤ 4 * i + 10 := by
  unfold rtx
  split
  · rw [lowPads_length, List.length_take]; omega
  · have hii : i = L.length := by omega
    have h1 := dec_limbs 4 (L.take (L.length - 1)) (nth L (L.length - 1)) (by omega) (fun d hd => hl d (List.mem_of_mem_take hd))
    have e2 : L.take (L.length - 1) ++ [nth L (L.length - 1)] = L := by
      rw [nth_lt (by omega), List.take_append_getElem]
      exact List.take_of_length_le (by omega)
    rw [e2] at h1
    rw [show (10000 : Nat) = 10 ^ 4 from rfl, h1, List.length_append, lowPads_length, List.length_take]
    have h2 : nth L (L.length - 1) < 10000 := nth_all hl (by omega) _
    have := dec_len (nth L (L.length - 1)) (by omega)
    omega
theorem sizeList (s : ByteArray) : s.data.toList.length = s.size := by simp
theorem digit_byte (q : Nat) : ∃ b : UInt8, b.toNat = 48 + q % 10 ∧ b = UInt8.ofNat (48 + q % 10) := ⟨_, digit_code q, rfl⟩
theorem div_step (d k : Nat) : d / 10 ^ (k + 1) = d / 10 ^ k / 10 := by rw [Nat.div_div_eq_div_mul, Nat.pow_succ]

set_option maxRecDepth 20000 in
set_option maxHeartbeats 3200000 in
theorem rtext_any (neg : Bool) (A : Option Addr) (c : Nat) (L : List Nat) (w : World) (hl : L.length ≤ 1000000) (hR : RefR w w.heap.size neg A c L) :
    Calls Tryd.prog 47 #[.agg #[.bool neg, .slice A L.length c]] w fun e w' => e = .returned (.string ⟨(decI neg (valB 10000 L)).toArray⟩) ∧ Below w.heap.size w w' := by
  obtain ⟨hrow, hlim, htop, hsgn⟩ := hR
  generalize hn : L.length = n at *
  have HN := Lib.hid hn
  clear hn
  have HS := Lib.hid hsgn
  have HT := Lib.hid htop
  clear hsgn htop
  go_enter Tryd.func47, Tryd.ntmps47
  go_wp2
  go_loopw [3, 4] (fun ov iv wr => ∃ (i : Nat) (O : ByteArray), i ≤ n ∧ iv = .int .i64 i ∧ ov = .string O ∧ Hid (O = ⟨(if n = 0 then [] else rtx L i).toArray⟩) ∧
    Below (w.heap.size + 1) (w.alloc (.cells #[.bool neg, .slice A n c] 31)) wr) (fun _ iv _ => n - (intOf iv).toNat)
  case atStart =>
    refine ⟨0, ⟨#[]⟩, Nat.zero_le _, rfl, rfl, ?_, by have := Below.refl (w.heap.size + 1) (w.alloc (.cells #[.bool neg, .slice A n c] 31)); exact this⟩
    show _ = _
    split
    · rfl
    · rw [rtx, if_pos (by rw [HN.out]; omega)]; rfl
  case round =>
    obtain ⟨i, O, hi, rfl, rfl, hO, hbr⟩ := hrel
    have hx1 := (boxed2 hbr).2
    by_cases hlt : i < n
    · obtain ⟨b, o, rfl, hb, hcell⟩ := hrow.spot (by rw [HN.out]; omega)
      have hm := (hcell.below (Below.trans (below_alloc_new _) (Below.less hbr (Nat.le_succ _))) hb) i (by rw [HN.out]; omega)
      have hd := nth_all hlim (by omega) i
      clear hcell
      generalize hdd : nth L i = d at *
      have HDD := Lib.hid hdd
      clear hdd
      go_wp2
      have ⟨T, hT⟩ : ∃ T, Hid (O = ⟨T.toArray⟩ ∧ T = rtx L i) := ⟨_, by rw [hO.out, if_neg (by omega)], rfl⟩
      have hTl : T.length ≤ 4000010 := by
        rw [hT.out.2]
        have := rtx_len (L := L) (i := i) (by rw [HN.out]; omega) (by rw [HN.out]; omega) hlim (by rw [HN.out]; exact HT.out (by omega))
        omega
      by_cases hlow : i < n - 1
      · go_loopw [3, 5, 6] (fun ov nv kv wq => ∃ (k : Nat) (O' : ByteArray) (q : Nat), k ≤ 4 ∧ kv = .int .i64 k ∧ ov = .string O' ∧ nv = .int .i64 q ∧ q ≤ 9999 ∧ Hid (O' = ⟨(padk k d ++ T).toArray⟩) ∧ Hid (q = d / 10 ^ k) ∧
          Below (w.heap.size + 1) (w.alloc (.cells #[.bool neg, .slice (some ⟨b, o, none⟩) n c] 31)) wq) (fun _ _ kv _ => 4 - (intOf kv).toNat)
        case atStart => exact ⟨0, O, d, by omega, rfl, rfl, rfl, by omega, by rw [hT.out.1]; rfl, by show _ = _; simp, hbr⟩
        case round =>
          clear hx1 hm
          obtain ⟨k, O', q, hk, rfl, rfl, rfl, hq, hO', hqd, hbq⟩ := hrel
          have hx1 := (boxed2 hbq).2
          by_cases hk4 : k < 4
          · have hlow' : (i : Int) < (n : Int) - 1 := by omega
            have hsz : O'.size ≤ 5000000 := by
              rw [hO'.out, ← sizeList]
              simp only [List.length_append, padk_length]
              omega
            obtain ⟨bt, hbt, hbt2⟩ := digit_byte q
            have HBT := Lib.hid hbt
            have HBT2 := Lib.hid hbt2
            clear hbt hbt2
            go_wp2_with (refine wpList_byte_str rfl 65 9 (.tmp 37) rfl 5 Tryd.underlying65 Tryd.underlying5 Tryd.underlying9 _ bt ?_ 1 rfl ?_; (rw [HBT.out]; simp))
            go_roundw
            case rel =>
              refine ⟨k + 1, (⟨#[bt]⟩ : ByteArray) ++ O', q / 10, by omega, by go_num, rfl, by simp, by omega, ?_, ?_, ?_⟩
              · show _ = _
                rw [hO'.out, str_cons, padk_front, HBT2.out, hqd.out]
                rfl
              · show _ = _
                rw [hqd.out, div_step]
              · have hs2 : w.heap.size + 1 ≤ wr.heap.size := by have := hbq.size; simpa using this
                exact hbq.alloc hs2 _
            case measure => simp [intOf]; omega
          · obtain rfl : k = 4 := by omega
            have hd4 : decide (((4 : Nat) : Int) < 4) = false := by decide
            go_wp2
            go_roundw
            case rel =>
              refine ⟨i + 1, O', by omega, by go_num, rfl, ?_, hbq⟩
              show _ = _
              rw [if_neg (by omega), hO'.out, hT.out.2, rtx_low (by rw [HN.out]; omega), HDD.out]
            case measure => simp [intOf]; omega
      · have hd0 : 0 < d := by
          have h9 := HT.out (by omega)
          have : n - 1 = i := by omega
          rw [this, HDD.out] at h9; omega
        have hlow' : ¬ (i : Int) < (n : Int) - 1 := by omega
        go_loopw [3, 5, 6] (fun ov nv kv wq => ∃ (k : Nat) (O' : ByteArray) (q : Nat), k ≤ 4 ∧ kv = .int .i64 k ∧ ov = .string O' ∧ nv = .int .i64 q ∧ q ≤ 9999 ∧ Hid (O' = ⟨(topTxt d k ++ T).toArray⟩) ∧ Hid (q = d / 10 ^ k) ∧
          Below (w.heap.size + 1) (w.alloc (.cells #[.bool neg, .slice (some ⟨b, o, none⟩) n c] 31)) wq) (fun _ _ kv _ => 4 - (intOf kv).toNat)
        case atStart => exact ⟨0, O, d, by omega, rfl, rfl, rfl, by omega, by rw [hT.out.1, topTxt_zero hd0]; rfl, by show _ = _; simp, hbr⟩
        case round =>
          clear hx1 hm
          obtain ⟨k, O', q, hk, rfl, rfl, rfl, hq, hO', hqd, hbq⟩ := hrel
          have hx1 := (boxed2 hbq).2
          by_cases hk4 : k < 4
          · have hp10 : 0 < 10 ^ k := Nat.pow_pos (by omega)
            by_cases hbig : 10 ^ k ≤ d
            · have hq0 : (0 : Int) < (q : Int) := by
                have := Nat.div_pos hbig hp10
                rw [← hqd.out] at this; omega
              have htl : (topTxt d k).length ≤ 20 := by
                unfold topTxt; rw [if_neg (by omega), padk_length]; omega
              have HBIG := Lib.hid hbig
              clear hbig hp10
              have hsz : O'.size ≤ 5000000 := by
                rw [hO'.out, ← sizeList]
                simp only [List.length_append]
                omega
              obtain ⟨bt, hbt, hbt2⟩ := digit_byte q
              have HBT := Lib.hid hbt
              have HBT2 := Lib.hid hbt2
              clear hbt hbt2
              go_wp2_with (refine wpList_byte_str rfl 65 9 (.tmp 37) rfl 5 Tryd.underlying65 Tryd.underlying5 Tryd.underlying9 _ bt ?_ 1 rfl ?_; (rw [HBT.out]; simp))
              go_roundw
              case rel =>
                refine ⟨k + 1, (⟨#[bt]⟩ : ByteArray) ++ O', q / 10, by omega, by go_num, rfl, by simp, by omega, ?_, ?_, ?_⟩
                · show _ = _
                  rw [hO'.out, str_cons, topTxt_step HBIG.out, HBT2.out, hqd.out]
                  rfl
                · show _ = _
                  rw [hqd.out, div_step]
                · have hs2 : w.heap.size + 1 ≤ wr.heap.size := by have := hbq.size; simpa using this
                  exact hbq.alloc hs2 _
              case measure => simp [intOf]; omega
            · have hq0 : ¬ (0 : Int) < (q : Int) := by
                have := hqd.out
                rw [Nat.div_eq_of_lt (by omega)] at this; omega
              have HBIG := Lib.hid hbig
              clear hbig hp10
              go_wp2
              go_roundw
              case rel =>
                refine ⟨k + 1, O', q / 10, by omega, by go_num, rfl, by simp, by omega, ?_, ?_, hbq⟩
                · show _ = _
                  rw [hO'.out, topTxt_same (by have := HBIG.out; omega)]
                · show _ = _
                  rw [hqd.out, div_step]
              case measure => simp [intOf]; omega
          · obtain rfl : k = 4 := by omega
            have hd4 : decide (((4 : Nat) : Int) < 4) = false := by decide
            go_wp2
            go_roundw
            case rel =>
              refine ⟨i + 1, O', by omega, by go_num, rfl, ?_, hbq⟩
              show _ = _
              rw [if_neg (by omega), hO'.out, hT.out.2, rtx_top (by rw [HN.out]; omega) hlim (by rw [HDD.out]; omega), HDD.out]
            case measure => simp [intOf]; omega
    · obtain rfl : i = n := by omega
      have hx0 := (boxed2 hbr).1
      have hbw : Below w.heap.size w wr := (below_alloc_new _).trans (Below.less hbr (Nat.le_succ _))
      have HX := Lib.hid hbw
      rcases Nat.eq_zero_or_pos i with rfl | hpos
      · obtain rfl : L = [] := List.eq_nil_of_length_eq_zero HN.out
        have hne : O.toList.isEmpty = true := by rw [hO.out, if_pos rfl, ByteArray.toList_eq]; rfl
        obtain rfl : neg = false := by cases neg; rfl; exact absurd rfl (HS.out rfl)
        clear hbw hbr
        go_wp2
        go_ret
        exact ⟨by rw [show decI false (valB 10000 []) = [48] from by show [] ++ decDigits 0 = _; rw [dec_small (by omega)]; rfl]; rfl, HX.out⟩
      · have hOo := hO.out
        have hrl := rtx_len (L := L) (i := i) (by rw [HN.out]; omega) (by rw [HN.out]; omega) hlim (by rw [HN.out]; exact HT.out (by omega))
        rw [if_neg (by omega)] at hOo
        have hrx : rtx L i = decDigits (valB 10000 L) := by rw [rtx, if_neg (by rw [HN.out]; omega)]
        rw [hrx] at hOo hrl
        have hne : O.toList.isEmpty = false := by
          rw [ByteArray.toList_eq, hOo, List.isEmpty_eq_false_iff]; exact dec_ne _
        have hsz : O.size ≤ 5000000 := by rw [hOo, ← sizeList]; simp only []; omega
        have HOO := Lib.hid hOo
        clear hOo hrx hrl hbw hbr
        cases neg
        · go_wp2
          go_ret
          exact ⟨by rw [HOO.out]; rfl, HX.out⟩
        · go_wp2
          go_ret
          exact ⟨by rw [HOO.out]; show Ending.returned (.string ((⟨#[45]⟩ : ByteArray) ++ _)) = _; rw [str_cons]; rfl, HX.out⟩
end Go.Proofs.YtbfbijokhlkekaaDoor
