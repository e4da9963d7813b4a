/- 'Text': the decimal text of an integer. -/
import Derived.Test.YtbfbijokhlkekaaDoorStrOf
import Derived.Test.YtbfbijokhlkekaaDoorAddNat
namespace Go.Proofs.YtbfbijokhlkekaaDoor
open Go.RowKit
open Go.Lib (decDigits)

/-- The text of an integer with a sign and an absolute value. -/
def decI (neg : Bool) (n : Nat) : List UInt8 := (if neg then [45] else []) ++ decDigits n

/-- A table that lies below block B reads as it does, whatever happens from block B on. -/
abbrev Tab (B : Nat) (w : World) : Prop := Lib.TabBelow Tryd.prog B w "internal/strconv.uint64pow10" .u64 Lib.pow10Tab
theorem Below.less {B B' : Nat} {w w' : World} (h : Below B' w w') (hB : B ≤ B') : Below B w w' := ⟨h.os, h.tape, h.output, h.size, fun k hk => h.block k (by omega)⟩
theorem Tab.more {B B' : Nat} {w : World} (h : Tab B w) (hB : B ≤ B') : Tab B' w := fun w' hb => h w' (Below.less hb hB)

theorem make_own8 {P : Program} (w : World) {ops : Array Oper} {rest : List Oper} {o : Oper} {a : Act} {Q : Exit → Act → World → Prop}
    (hg : o.guard = none) (l c : Operand) (t : TypeId) (hop : o.op = Op.makeSlice t l c)
    (e : TypeId) (i : TypeInfo) (h1 : P.underlying t = some (.slice e)) (h2 : P.info? e = some i) (h3 : i.zero = some (.int .u8 0)) (h4 : i.size = 1) (h5 : i.bytes = 1)
    (kl kc : IntKind) (C : Int) (n : Nat) (hl : a.eval l = .int kl 0) (hc : a.eval c = .int kc C) (hC : C = (n : Int)) (hn : n ≤ 100000000)
    (hK : ∀ w', Hid (Own .u8 e w' w.heap.size (.slice (some ⟨w.heap.size, 0, none⟩) 0 n) (codes [])) → Below w.heap.size w w' → wpList P ops Q rest (a.put o.dst (.slice (some ⟨w.heap.size, 0, none⟩) 0 n)) w') :
    wpList P ops Q (o :: rest) a w :=
  wpList_make_own w hg l c t hop w.heap.size e i (.int .u8 0) 1 h1 h2 h3 h4 kl kc C n hl hc hC (by rw [h5]; omega) (by unfold maxLen; omega) (Nat.le_refl _)
    fun w' ho hgr => hK w' ho (grown_none_below (Below.refl _ _) hgr (Nat.le_refl _))

/-- What stands in the box of a struct of two cells, after new blocks were made. -/
theorem boxed {w w1 : World} {x y : Value} {t : TypeId} (h : Below (w.alloc (.cells #[x, y] t)).heap.size (w.alloc (.cells #[x, y] t)) w1) :
    w1.cell? ⟨w.heap.size, 0, none⟩ = some x ∧ w1.cell? ⟨w.heap.size, 1, none⟩ = some y ∧ w.heap.size + 1 ≤ w1.heap.size ∧ Below (w.heap.size + 1) (w.alloc (.cells #[x, y] t)) w1 := by
  have hs : (w.alloc (.cells #[x, y] t)).heap.size = w.heap.size + 1 := by simp
  rw [hs] at h
  have hh := heap_alloc_new w (.cells #[x, y] t)
  refine ⟨?_, ?_, by have := h.size; omega, h⟩
  · rw [h.cell (by show w.heap.size < _; omega)]; unfold World.cell?; dsimp only; rw [hh]; rfl
  · rw [h.cell (by show w.heap.size < _; omega)]; unfold World.cell?; dsimp only; rw [hh]; rfl

theorem boxedF {w w1 : World} {cs : Array Value} {t : TypeId} (h : Below (w.heap.size + 1) (w.alloc (.cells cs t)) w1) (i : Nat) : w1.frozen? ⟨w.heap.size, i, none⟩ = false := by
  rw [h.frozen (by show w.heap.size < _; omega)]
  unfold World.frozen?; dsimp only; rw [heap_alloc_new]; simp
theorem nDigits_le (k : Nat) : ∀ n, n < 10 ^ (k + 1) → Go.Lib.nDigits n ≤ k + 1 := by
  induction k with
  | zero => intro n h; rw [Go.Lib.nDigits_small (by simpa using h)]; omega
  | succ k ih =>
    intro n h
    by_cases h10 : n < 10
    · rw [Go.Lib.nDigits_small h10]; omega
    · rw [Go.Lib.nDigits_big h10]
      have := ih (n / 10) (by rw [Nat.pow_succ] at h; omega)
      omega
theorem dec_ne (n : Nat) : decDigits n ≠ [] := by
  rw [decDigits]
  split <;> simp
theorem dec_len (n : Nat) (h : n < 1000000000) : (decDigits n).length ≤ 10 := by
  rw [Go.Lib.decDigits_length]
  have := nDigits_le 8 n (by omega)
  omega
theorem boxed2 {w w1 : World} {x y : Value} {t : TypeId} (h : Below (w.heap.size + 1) (w.alloc (.cells #[x, y] t)) w1) :
    w1.cell? ⟨w.heap.size, 0, none⟩ = some x ∧ w1.cell? ⟨w.heap.size, 1, none⟩ = some y := by
  have hs : (w.alloc (.cells #[x, y] t)).heap.size = w.heap.size + 1 := by simp
  have := boxed (w := w) (w1 := w1) (x := x) (y := y) (t := t) (by rw [hs]; exact h)
  exact ⟨this.1, this.2.1⟩

set_option maxRecDepth 20000 in
set_option maxHeartbeats 1600000 in
theorem text_long (neg : Bool) (A : Option Addr) (c : Nat) (L : List Nat) (w : World) (hn : 0 < L.length) (hl : L.length ≤ 100000) (hL : Lim L) (htop : nth L (L.length - 1) ≠ 0)
    (hR : Row .u32 w w.heap.size A c L) (ht : Tab w.heap.size w) :
    Calls Tryd.prog 16 #[.agg #[.bool neg, .slice A L.length c]] w fun e w' => e = .returned (.string ⟨(decI neg (valB 1000000000 L)).toArray⟩) ∧ Below w.heap.size w w' := by
  obtain ⟨i0, hi, hz0, hz1, hz2⟩ := info_parts info5
  obtain ⟨b, o, rfl, hb, hcell⟩ := hR.spot hn
  generalize hl' : L.length = l at *
  have HL := Lib.hid hl'
  clear hl'
  have h0 : ((l : Int) == 0) = false := by simp; omega
  have htl := hL.nth (l - 1)
  have e1 : ((l : Int) - 1).toNat = l - 1 := by omega
  have hval : decI neg (valB 1000000000 L) = (if neg then [45] else []) ++ (decDigits (nth L (l - 1)) ++ lowPads 9 (L.take (l - 1))) := by
    unfold decI
    congr 1
    have := dec_limbs 9 (L.take (l - 1)) (nth L (l - 1)) (by omega) (fun d hd => hL d (List.mem_of_mem_take hd))
    rw [← this]
    have e2 : L.take (l - 1) ++ [nth L (l - 1)] = L := by
      have hh : l - 1 < L.length := by rw [HL.out]; omega
      rw [nth_lt hh, List.take_append_getElem]
      exact List.take_of_length_le (by rw [HL.out]; omega)
    rw [e2]
  have HV := Lib.hid hval
  clear hval e1 htop
  generalize htt : nth L (l - 1) = top at *
  have HTT := Lib.hid htt
  clear htt
  have HT := Lib.hid ht
  clear ht
  have ⟨S, hS, hS2⟩ : ∃ S : List UInt8, Hid ((if neg then [45] else []) = S) ∧ S.length ≤ 1 := ⟨_, rfl, by cases neg <;> simp⟩
  cases neg
  case false =>
    obtain rfl : [] = S := hS
    go_enter Tryd.func16, Tryd.ntmps16
    go_wp2_with (refine make_own8 _ rfl (.const (.int .i64 0)) (.tmp 14) 65 rfl 5 i0 Tryd.underlying65 hi hz0 hz1 hz2 .i64 .i64 _ (l * 9 + 1) rfl rfl ?_ ?_ ?_; (omega); (omega); intro w1 ho1 hb1; have X := boxed hb1; have hx0 := X.1; have hx1 := X.2.1; have hs1 := X.2.2.1; have hbx := X.2.2.2; clear X hb1; have hcl := hcell.below (Below.trans (below_alloc_new _) (Below.less hbx (Nat.le_succ _))) hb; have hlast := hcl (l - 1) (by rw [HL.out]; omega); rw [HTT.out] at hlast)
    refine (appendUint_any top (w.heap.size + 1) _ [] w1 (by omega) (by simp) hs1 (by simpa using ho1.out) (HT.out.on (Below.trans (below_alloc_new _) (Below.less hbx (Nat.le_succ _))) |>.here)).mono ?_
    rintro e w2 ⟨v2, rfl, ho2, hb2⟩
    have hbx2 := hbx.trans hb2
    clear hx0 hx1 hcl hlast hb2
    have hx1 := (boxed2 hbx2).2
    have HO2 := Lib.hid ho2
    clear ho2 ho1
    go_wp2_with fail
    generalize hP : [] ++ decDigits top = P0 at *
    have hPl : P0.length ≤ 21 := by rw [← hP]; have := dec_len top htl; simp; omega
    have HP := Lib.hid hP
    clear hP
    go_loopw [3, 5] (fun tv iv wr => ∃ k : Nat, k ≤ l - 1 ∧ iv = .int .i64 ((k : Int) - 1) ∧ Own .u8 5 wr (w.heap.size + 1) tv (codes (P0 ++ lowPads 9 ((L.take (l - 1)).drop k))) ∧
      Below (w.heap.size + 1) (w.alloc (.cells #[.bool false, .slice (some ⟨b, o, none⟩) l c] 25)) wr) (fun _ iv _ => (intOf iv + 1).toNat)
    case atStart => exact ⟨l - 1, by omega, by congr 1; omega, by rw [List.drop_of_length_le (by rw [List.length_take, HL.out]; omega)]; simpa [lowPads] using HO2.out, hbx2⟩
    case round =>
      clear hx1 hbx2
      obtain ⟨k, hk, rfl, ho, hbr⟩ := hrel
      have hx1 := (boxed2 hbr).2
      rcases Nat.eq_zero_or_pos k with rfl | hpos
      · have hd : decide ((0 : Int) ≤ ((0 : Nat) : Int) - 1) = false := by simp
        have HO := Lib.hid ho
        clear ho
        have hne : P0 ++ lowPads 9 ((L.take (l - 1)).drop 0) ≠ [] := by rw [← HP.out]; simp [dec_ne]
        have HNE := Lib.hid hne
        clear hne
        go_wp2_with (refine wpList_bytes_str rfl 65 9 (.tmp 46) rfl 5 Tryd.underlying65 Tryd.underlying5 Tryd.underlying9 (w.heap.size + 1) u3 _ (by rfl) HO.out HNE.out ?_)
        go_ret
        exact ⟨by rw [HV.out, ← HP.out]; simp, (below_alloc_new _).trans (Below.less hbr (Nat.le_succ _))⟩
      · obtain ⟨m, rfl⟩ : ∃ m, k = m + 1 := ⟨k - 1, by omega⟩
        have h1 : ((0 : Int) ≤ ((m + 1 : Nat) : Int) - 1) := by omega
        have e1 : ((m + 1 : Nat) : Int) - 1 = (m : Int) := by omega
        rw [e1]
        clear e1 h1
        have hm := (hcell.below (Below.trans (below_alloc_new _) (Below.less hbr (Nat.le_succ _))) hb) m (by rw [HL.out]; omega)
        have hml := hL.nth m
        have hsr : w.heap.size + 1 ≤ wr.heap.size := by have := hbr.size; simpa using this
        have hlen : (P0 ++ lowPads 9 ((L.take (l - 1)).drop (m + 1))).length ≤ 10000000 := by
          rw [List.length_append, lowPads_length, List.length_drop, List.length_take, HL.out]; omega
        have hst : lowPads 9 ((L.take (l - 1)).drop m) = lowPads 9 ((L.take (l - 1)).drop (m + 1)) ++ padk 9 (nth L m) := by
          have hml2 : m < (L.take (l - 1)).length := by rw [List.length_take, HL.out]; omega
          rw [List.drop_eq_getElem_cons hml2, lowPads, nth_lt (by rw [HL.out]; omega)]
          simp
        have hap := appendLimb_any (nth L m) (w.heap.size + 1) u3 _ wr hml hlen hsr ho
        have HAP := Lib.hid hap
        have HST := Lib.hid hst
        clear hlen hst ho hap
        go_wp2_with fail
        refine HAP.out.mono ?_
        rintro e w3 ⟨v3, rfl, ho3, hb3⟩
        have HO3 := Lib.hid ho3
        clear ho3 hx1 hm
        go_wp2_with fail
        go_roundw
        case rel => exact ⟨m, by omega, rfl, by rw [HST.out, ← List.append_assoc]; exact HO3.out, hbr.trans hb3⟩
        case measure => simp [intOf]
  case true =>
    obtain rfl : [45] = S := hS
    go_enter Tryd.func16, Tryd.ntmps16
    go_wp2_with (first
      | (refine make_own8 _ rfl (.const (.int .i64 0)) (.tmp 14) 65 rfl 5 i0 Tryd.underlying65 hi hz0 hz1 hz2 .i64 .i64 _ (l * 9 + 1) rfl rfl ?_ ?_ ?_; (omega); (omega); intro w1 ho1 hb1; have X := boxed hb1; have hx0 := X.1; have hx1 := X.2.1; have hs1 := X.2.2.1; have hbx := X.2.2.2; clear X hb1)
      | (at_builtin; refine wpList_append_num w1 rfl (.tmp 18) (.tmp 19) 65 rfl .u8 (w.heap.size + 1) 5 i0 1 Tryd.underlying65 hi hz0 hz1 hz2 (by omega) (.slice (some ⟨w.heap.size + 1, 0, none⟩) 0 (l * 9 + 1)) (codes []) (by rfl) (by simpa using ho1.out) _ 45 ?_ 1 rfl ?_ ?_ ?_; (rfl); (simp [codes]); (exact hs1); intro w4 w5 ho5 hb5; have hbx5 := hbx.trans hb5; have hx5 := (boxed2 hbx5).1; have hx6 := (boxed2 hbx5).2; have hs5 := Nat.le_trans hs1 hb5.size; clear hb5 hx0 hx1; have hcl := hcell.below (Below.trans (below_alloc_new _) (Below.less hbx5 (Nat.le_succ _))) hb; have hlast := hcl (l - 1) (by rw [HL.out]; omega); rw [HTT.out] at hlast)
      | fail)
    refine (appendUint_any top (w.heap.size + 1) _ [45] w5 (by omega) (by simp) hs5 ho5.out (HT.out.on (Below.trans (below_alloc_new _) (Below.less hbx5 (Nat.le_succ _))) |>.here)).mono ?_
    rintro e w2 ⟨v2, rfl, ho2, hb2⟩
    have hbx2 := hbx5.trans hb2
    clear hx5 hx6 hcl hlast hb2
    have hx1 := (boxed2 hbx2).2
    have HO2 := Lib.hid ho2
    clear ho2 ho5
    go_wp2_with fail
    generalize hP : [45] ++ decDigits top = P0 at *
    have hPl : P0.length ≤ 21 := by rw [← hP]; have := dec_len top htl; simp; omega
    have HP := Lib.hid hP
    clear hP
    go_loopw [3, 5] (fun tv iv wr => ∃ k : Nat, k ≤ l - 1 ∧ iv = .int .i64 ((k : Int) - 1) ∧ Own .u8 5 wr (w.heap.size + 1) tv (codes (P0 ++ lowPads 9 ((L.take (l - 1)).drop k))) ∧
      Below (w.heap.size + 1) (w.alloc (.cells #[.bool true, .slice (some ⟨b, o, none⟩) l c] 25)) wr) (fun _ iv _ => (intOf iv + 1).toNat)
    case atStart => exact ⟨l - 1, by omega, by congr 1; omega, by rw [List.drop_of_length_le (by rw [List.length_take, HL.out]; omega)]; simpa [lowPads] using HO2.out, hbx2⟩
    case round =>
      clear hx1 hbx2
      obtain ⟨k, hk, rfl, ho, hbr⟩ := hrel
      have hx1 := (boxed2 hbr).2
      rcases Nat.eq_zero_or_pos k with rfl | hpos
      · have hd : decide ((0 : Int) ≤ ((0 : Nat) : Int) - 1) = false := by simp
        have HO := Lib.hid ho
        clear ho
        have hne : P0 ++ lowPads 9 ((L.take (l - 1)).drop 0) ≠ [] := by rw [← HP.out]; simp
        have HNE := Lib.hid hne
        clear hne
        go_wp2_with (refine wpList_bytes_str rfl 65 9 (.tmp 46) rfl 5 Tryd.underlying65 Tryd.underlying5 Tryd.underlying9 (w.heap.size + 1) u3 _ (by rfl) HO.out HNE.out ?_)
        go_ret
        exact ⟨by rw [HV.out, ← HP.out]; simp, (below_alloc_new _).trans (Below.less hbr (Nat.le_succ _))⟩
      · obtain ⟨m, rfl⟩ : ∃ m, k = m + 1 := ⟨k - 1, by omega⟩
        have h1 : ((0 : Int) ≤ ((m + 1 : Nat) : Int) - 1) := by omega
        have e1 : ((m + 1 : Nat) : Int) - 1 = (m : Int) := by omega
        rw [e1]
        clear e1 h1
        have hm := (hcell.below (Below.trans (below_alloc_new _) (Below.less hbr (Nat.le_succ _))) hb) m (by rw [HL.out]; omega)
        have hml := hL.nth m
        have hsr : w.heap.size + 1 ≤ wr.heap.size := by have := hbr.size; simpa using this
        have hlen : (P0 ++ lowPads 9 ((L.take (l - 1)).drop (m + 1))).length ≤ 10000000 := by
          rw [List.length_append, lowPads_length, List.length_drop, List.length_take, HL.out]; omega
        have hst : lowPads 9 ((L.take (l - 1)).drop m) = lowPads 9 ((L.take (l - 1)).drop (m + 1)) ++ padk 9 (nth L m) := by
          have hml2 : m < (L.take (l - 1)).length := by rw [List.length_take, HL.out]; omega
          rw [List.drop_eq_getElem_cons hml2, lowPads, nth_lt (by rw [HL.out]; omega)]
          simp
        have hap := appendLimb_any (nth L m) (w.heap.size + 1) u3 _ wr hml hlen hsr ho
        have HAP := Lib.hid hap
        have HST := Lib.hid hst
        clear hlen hst ho hap
        go_wp2_with fail
        refine HAP.out.mono ?_
        rintro e w3 ⟨v3, rfl, ho3, hb3⟩
        have HO3 := Lib.hid ho3
        clear ho3 hx1 hm
        go_wp2_with fail
        go_roundw
        case rel => exact ⟨m, by omega, rfl, by rw [HST.out, ← List.append_assoc]; exact HO3.out, hbr.trans hb3⟩
        case measure => simp [intOf]

set_option maxHeartbeats 800000 in
theorem text_zero (neg : Bool) (A : Option Addr) (c : Nat) (w : World) :
    Calls Tryd.prog 16 #[.agg #[.bool neg, .slice A 0 c]] w fun e w' => e = .returned (.string ⟨#[48]⟩) ∧ Below w.heap.size w w' := by
  go_enter Tryd.func16, Tryd.ntmps16
  go_wp2
  go_ret
  exact ⟨rfl, below_alloc_new _⟩

/-- What the limbs of an integer are like. -/
structure Canon (L : List Nat) : Prop where
  lim : Lim L
  top : 0 < L.length → nth L (L.length - 1) ≠ 0
theorem decI_nil : decI false (valB 1000000000 []) = [48] := by
  show [] ++ decDigits 0 = _
  rw [dec_small (by omega)]; rfl

theorem text_any (neg : Bool) (A : Option Addr) (c : Nat) (L : List Nat) (w : World) (hl : L.length ≤ 100000) (hL : Canon L) (hneg : neg = true → L ≠ [])
    (hR : Row .u32 w w.heap.size A c L) (ht : Tab w.heap.size w) :
    Calls Tryd.prog 16 #[.agg #[.bool neg, .slice A L.length c]] w fun e w' => e = .returned (.string ⟨(decI neg (valB 1000000000 L)).toArray⟩) ∧ Below w.heap.size w w' := by
  rcases Nat.eq_zero_or_pos L.length with h | h
  · obtain rfl : L = [] := List.eq_nil_of_length_eq_zero h
    cases neg
    · rw [decI_nil]; exact text_zero _ _ _ _
    · exact absurd rfl (hneg rfl)
  · exact text_long neg A c L w h hl hL.lim (hL.top h) hR ht
end Go.Proofs.YtbfbijokhlkekaaDoor
