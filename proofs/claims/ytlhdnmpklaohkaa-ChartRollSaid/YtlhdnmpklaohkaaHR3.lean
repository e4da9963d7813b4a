/- Contracts and the law of ChartRoll, part 3: what was proved of each, callees first. -/
import Derived.Deep.Slices
import Derived.Deep.Fields
import Derived.Test.YtlhdnmpklaohkaaHR2
namespace Go.Proofs.Ytlhdnmpklaohkaa
open Go.RowKit
theorem bals_nothing {P : Program} {w : World} (base : Nat) (t ty e : TypeId) (i : TypeInfo) (ht : P.underlying t = some (.slice e)) (hi : P.info? e = some i) {size : Nat}
  (v : Value) (n : Nat) (xs : List Value) (hown : w.ownsRow base e size v n xs) (c : Nat) : (Builtin.append_ #[t, t] ty #[v, .slice none 0 c]).run P w = .ok v w := run_append_nothing base t ty e i ht hi v n xs hown c
theorem wpList_append_bals {P : Program} {w : World} {ops : Array Oper} {rest : List Oper} {o : Oper} {a : Act} {Q : Exit → Act → World → Prop} (hgd : o.guard = none) (s x : Operand) (t : TypeId)
  (ho : o.op = .call { callee := .builtin .append, args := #[s, x], argTypes := #[t, t] })
  (base : Nat) (e : TypeId) (i : TypeInfo) (bytes : Nat) (ht : P.underlying t = some (.slice e)) (hi : P.info? e = some i) (hz : i.zero = some (.agg #[.int .i64 0, .int .i64 0]))
  (hsize : i.size = 2) (hby : i.bytes = bytes) (hb8 : bytes ≤ 16)
  (v : Value) (L : List Bal) (hs : a.eval s = v) (hown : OwnB e w base v L) (A : Option Addr) (m c : Nat) (M : List Bal) (hm : M.length = m) (hx : a.eval x = .slice A m c) (hR : BalAt w A M)
  (hlen : L.length + m ≤ 100000000) (hbase : base ≤ w.heap.size)
  (h : ∀ v' w', Hid (OwnB e w' base v' (L ++ M)) → Below base w w' → wpList P ops Q rest (a.put o.dst v') w') : wpList P ops Q (o :: rest) a w := by
 subst hm
 have hb := Nat.mul_le_mul_left (L.length + M.length) hb8
 rcases A with _ | ad
 ·have h0 : M.length = 0 := by
   rcases Nat.eq_zero_or_pos M.length with h0 | h0
   ·exact h0
   ·obtain ⟨b, o', e1, _, _⟩ := hR h0; cases e1
  have hM : M = [] := List.eq_nil_of_length_eq_zero h0
  subst hM
  refine wpList_plain hgd fun K hK => ?_
  have hrun := bals_nothing (P := P) (w := w) base t o.type e i ht hi v _ _ hown c
  unfold Oper.wp
  simp only [List.length_nil] at hx
  simp [execOp, ho, resolve, invoke, builtin, hs, hx, hrun, Result.andThen]
  exact hK _ _ (h v w (by rw [List.append_nil]; exact hown) (Below.refl _ _))
 ·refine wpList_append_own w hgd s x t ho base e i (.agg #[.int .i64 0, .int .i64 0]) 2 bytes ht hi hz hsize hby rfl (by decide) v L.length _ hs hown ad M.length c (M.flatMap balC) hx (balC_len M) ?_ ?_ (by unfold maxLen; omega) (by omega) hbase ?_
  ·intro j u hj
   have hjl : j < M.length * 2 := by
    rcases Nat.lt_or_ge j (M.length * 2) with h1 | h1
    ·exact h1
    ·rw [List.getElem?_eq_none (by rw [balC_len]; exact h1)] at hj; cases hj
   obtain ⟨b, o', e1, _, hc⟩ := hR (by omega)
   injection e1 with e1
   subst e1
   obtain ⟨k, r, hkr, hr⟩ : ∃ k r, j = k * 2 + r ∧ r < 2 := ⟨j / 2, j % 2, by omega, Nat.mod_lt _ (by decide)⟩
   have hk : k < M.length := by omega
   have h2 := hc k hk
   obtain ⟨g0, g1⟩ := balC_get M k hk
   have hadd : (Addr.add ⟨b, o', none⟩ j) = ⟨b, o' + j, none⟩ := by
    unfold Addr.add
    split
    ·rename_i h0; subst h0; simp
    ·rfl
   rw [hadd]
   match r, hr with
   | 0, _ =>
    subst hkr
    rw [Nat.add_zero] at hj ⊢
    rw [g0] at hj
    injection hj with hj
    subst hj
    exact h2.c0
   | 1, _ =>
    subst hkr
    rw [g1] at hj
    injection hj with hj
    subst hj
    exact h2.c1
  ·intro u hu
   obtain ⟨z, _, hz2⟩ := List.mem_flatMap.1 hu
   simp [balC] at hz2
   rcases hz2 with rfl | rfl <;> rfl
  ·intro v' w' h1 h2 _
   refine h v' w' ?_ ((Below.refl base w).grown h2 hbase (fun j hj => (World.ownsRow.lt hown j hj).1))
   show World.ownsRow _ _ _ _ _ _ _
   rw [List.length_append, List.flatMap_append]
   exact h1
theorem rollL_len {L : List Acc} {b : List Bal} : (rollL L b).length ≤ L.length := by
 unfold rollL; split
 ·exact rowsB_len
 ·simp
set_option maxRecDepth 20000 in
set_option maxHeartbeats 3200000 in
theorem law_chroll (A : Option Addr) (len c : Nat) (L : List Acc) (B : Option Addr) (lb cb : Nat) (b : List Bal) (w : World) (hlen : L.length = len) (hz : AccAt w A L) (hlb : b.length = lb) (hy : BalAt w B b) :
  Calls Try.prog 6 #[.slice A len c, .slice B lb cb] w fun e w' => e = .returned (.bool true) ∧ Below w.heap.size w w' := by
 have hB := Below.refl w.heap.size w
 have HZ := Lib.hid hz
 have HY := Lib.hid hy
 clear hz hy
 have hfw := fun w => chfew_any A B len lb c cb w
 by_cases hbig : len ≤ 60 ∧ lb ≤ 60
 ·obtain ⟨hl1, hl2⟩ := hbig
  rw [decide_eq_true hl1, decide_eq_true hl2] at hfw
  have HFW := Lib.hid hfw
  have h1 := fun B2 d w h h' => croll_any A B2 c d L b w h h' (by omega) (by omega)
  have h2 := fun w h h' => rroll_any A B c cb L b w h h' (by omega) (by omega)
  have hrl : (rollL L b).length ≤ 1000 := by have := rollL_len (L := L) (b := b); omega
  generalize rollL L b = R at *
  generalize rollE L b = E at *
  obtain ⟨nr, hnr⟩ : ∃ nr, R.length = nr := ⟨_, rfl⟩
  have s1 := fun A B c d w h1 h2 => rsameb_any A B c d R R w h1 h2 (by omega) (by omega)
  have s2 := fun A B c d w h1 h2 => rsameb_any A B c d b b w h1 h2 (by omega) (by omega)
  rw [show decide (R = R) = true from by simp, hnr] at s1
  rw [show decide (b = b) = true from by simp, hlb] at s2
  rw [hlen, hlb] at h1 h2
  have hle : b.length ≤ 1000 := by omega
  have HNR := Lib.hid hnr
  have HLB := Lib.hid hlb
  have H1 := Lib.hid h1
  have H2 := Lib.hid h2
  have S1 := Lib.hid s1
  have S2 := Lib.hid s2
  have ee : (E == E) = true := by simp
  obtain ⟨i0, hi, hz1, hz2, hz3⟩ := info_parts infoI_bal
  clear hfw hlen hl1 h1 h2 hrl hnr s1 s2 hlb hle
  go_enter Try.func6, Try.ntmps6
  go_wp2_with (first
   | (go_at_call 10; refine (chawake_any _).mono ?_; rintro e w1 ⟨rfl, hb⟩; replace hB := below_more hB hb; clear hb)
   | (go_at_call 18; refine (HFW.out _).mono ?_; rintro e w2 ⟨rfl, rfl⟩)
   | (at_builtin; refine wpList_append_bals rfl (.tmp 16) (.tmp 17) 34 rfl w.heap.size 43 i0 16 Try.underlying34 hi hz1 hz2 hz3 (by omega) _ [] (by rfl) (OwnB.empty hB.size) B lb cb b HLB.out rfl ((HY.out.up hB).up (below_alloc_new _)) (by simp; omega) (by have := hB.size; simp; omega) ?_; intro v2 w3 ho2 hb2; replace hB := (below_new hB (.cells #[] 43)).trans hb2; rw [List.nil_append] at ho2; obtain ⟨A2, c2, hv2, hI2⟩ := ho2.out.slb; rw [HLB.out] at hv2; subst hv2; have HI2 := Lib.hid hI2; clear hb2 ho2 hI2)
   | (go_at_call 23; refine (H1.out _ _ _ (HZ.out.up hB) HI2.out).mono ?_; rintro e w4 ⟨v3, rfl, hs3, hb⟩; replace hB := below_more hB hb; replace HI2 := Lib.hid (HI2.out.up hb); obtain ⟨A3, d3, hv3, hI3⟩ := hs3; rw [HNR.out] at hv3; subst hv3; have HI3 := Lib.hid hI3; clear hb hI3)
   | (go_at_call 24; refine (H2.out _ (HZ.out.up hB) (HY.out.up hB)).mono ?_; rintro e w5 ⟨v4, rfl, hs4, hb⟩; replace hB := below_more hB hb; replace HI2 := Lib.hid (HI2.out.up hb); replace HI3 := Lib.hid (HI3.out.up hb); obtain ⟨A4, d4, hv4, hI4⟩ := hs4; rw [HNR.out] at hv4; subst hv4; have HI4 := Lib.hid hI4; clear hb hI4)
   | (go_at_call 25; ((with_reducible refine (S1.out _ _ _ _ _ HI3.out HI4.out).mono ?_)); rintro e w6 ⟨rfl, hb⟩; replace hB := below_more hB hb; replace HI2 := Lib.hid (HI2.out.up hb); clear hb)
   | (go_at_call 25; ((with_reducible refine (S2.out _ _ _ _ _ HI2.out (HY.out.up hB)).mono ?_)); rintro e w7 ⟨rfl, hb⟩; replace hB := below_more hB hb; clear hb))
  go_ret
  exact ⟨rfl, hB⟩
 ·have hff : (decide (len ≤ 60) && decide (lb ≤ 60)) = false := by
   rw [Bool.and_eq_false_iff]
   by_cases h1 : len ≤ 60
   ·exact .inr (decide_eq_false fun h2 => hbig ⟨h1, h2⟩)
   ·exact .inl (decide_eq_false h1)
  rw [hff] at hfw
  have HFW := Lib.hid hfw
  clear hlen hlb hfw hbig hff
  go_enter Try.func6, Try.ntmps6
  go_wp2_with (first
   | (go_at_call 10; refine (chawake_any _).mono ?_; rintro e w1 ⟨rfl, hb⟩; replace hB := below_more hB hb; clear hb)
   | (go_at_call 18; refine (HFW.out _).mono ?_; rintro e w1 ⟨rfl, rfl⟩))
  go_ret
  exact ⟨rfl, hB⟩
open Go.ChangeShapes Go.WideShapes Go.ChangeAt Go.WideMaps Go.WideElems Go.RowKit Go.Deep
theorem open_ibals {H : Type} {enc : TypeId × Value → H} {P : Program} {W : World} {b0 : Nat} {T E I : TypeId} {f0 f1 : Field} {v : Value} {d : DataW H} {p : List MemPlace} (hT : P.underlying T = some (.slice E)) (hE : P.underlying E = some (.struct #[f0, f1]))
  (hone : oneCellFields P #[f0, f1] = true) (hC : P.cellsOf E = 2) (hty : ([f0, f1].all fun f => f.type == I) = true) (hI : P.underlying I = some (.int .i64))
  (hval : Value.okWide P W .any b0 T v) (h : DataW.Trod enc P W 0 (fun _ => true) true T v d p) :
  ∃ A len cap L, v = .slice A len cap ∧ L.length = len ∧ len ≤ 9223372036854775807 ∧ BalAt W A L := by
 obtain ⟨A, len, cap, rfl, hmax, X, hX⟩ := open_irows hT hE hone hC hty hI (by simp) hval h
 refine ⟨A, len, cap, (List.range len).map fun k => ⟨X k 0, X k 1⟩, rfl, by simp, hmax, fun h0 => ?_⟩
 obtain ⟨b, off, e, hlt, hc⟩ := hX (by simpa using h0)
 refine ⟨b, off, e, hlt, fun i hi => ?_⟩
 have hi2 : i < len := by simpa using hi
 have hg : ((List.range len).map fun k => (⟨X k 0, X k 1⟩ : Bal)).getD i bal0 = ⟨X i 0, X i 1⟩ := by
  rw [List.getD_eq_getElem?_getD, List.getElem?_map, List.getElem?_range hi2]; rfl
 rw [hg]
 exact ⟨hc i hi2 0 (by simp), hc i hi2 1 (by simp)⟩
end Go.Proofs.Ytlhdnmpklaohkaa
