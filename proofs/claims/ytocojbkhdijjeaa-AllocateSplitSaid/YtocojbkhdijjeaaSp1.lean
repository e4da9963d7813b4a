/- Contracts and the law of AllocateSplit, part 1: what was proved of each, callees first. -/
import Derived.Test.YtocojbkhdijjeaaProg
import Derived.WalkKit
import Derived.WalkSpells
import Derived.Lib.Hide
import Derived.Deep.QuietTactic
import Derived.BigQuiet
import Derived.Deep.Draws
import Derived.Laws.Rows
import Derived.Laws.CopyOwn
import Derived.Deep.OwnRows
import Derived.Outline
import Derived.Laws.AppendOwnNone
import Derived.OwnWalk
import Derived.Maps.AppendAt
import Derived.Handed
import Derived.ProofKit
import Derived.ChangeSlices
import Derived.OpenShut
import Derived.Carry
import Derived.Test.YtocojbkhdijjeaaK2
namespace Go.Proofs.Ytocojbkhdijjeaa
open Go.RowKit
section
variable {k : IntKind} {t : TypeId} {w w' : World} {b o g B : Nat} {L : List Nat}
end
section
variable {k : IntKind} {t : TypeId} {w w' : World} {g B B' c : Nat} {A : Option Addr} {L : List Nat}
end
theorem grown_refl (w : World) (row : Option Nat) : w.grownBy w row := World.grownBy.refl w _
theorem grown_set {a w : World} {g : Nat} (h : a.grownBy w (some g)) (i : Nat) (u : Value) : a.grownBy (w.setCell ⟨g, i, none⟩ u) (some g) :=
 ⟨h.os, h.tape, h.output, by simpa [World.setCell] using h.size, fun j hj hne => (Below.heap_setCell w _ u j (by rintro rfl; exact hne rfl)).trans (h.block j hj hne)⟩
open Go.RowKit
def OwnI (k : IntKind) (e : TypeId) (w : World) (base : Nat) (v : Value) (L : List Int) : Prop := w.ownsRow base e 1 v L.length (L.map fun d => Value.int k d)
section
variable {k : IntKind} {e : TypeId} {w w' : World} {base B : Nat} {v : Value} {A : Option Addr} {L M zs : List Int}
theorem OwnI.nil : OwnI k e w base (.slice none 0 0) [] := World.ownsRow_nil _ _ _ _
theorem OwnI.empty (hb : base ≤ w.heap.size) : OwnI k e (w.alloc (.cells #[] e)) base (.slice (some ⟨w.heap.size, 0, none⟩) 0 0) [] :=
 ⟨rfl, .inr ⟨w.heap.size, 0, #[], rfl, hb, heap_alloc_new _ _, Nat.le_refl _, Nat.zero_le _, rfl, rfl⟩⟩
theorem OwnI.ints (h : OwnI k e w base v L) : ∃ A c, v = .slice A L.length c ∧ IntsAt k w A L := by
 obtain ⟨h1, h2⟩ := h
 rcases h2 with ⟨rfl, h0⟩ | ⟨g, cap, cur, rfl, hbg, hg, hn, hcap, hsz, hcur⟩
 ·obtain rfl : L = [] := List.eq_nil_of_length_eq_zero h0
  exact ⟨none, 0, rfl, IntsAt.nil⟩
 ·refine ⟨_, cap, rfl, fun _ => ⟨g, 0, rfl, ?_, fun j hj => ?_⟩⟩
  ·rcases Nat.lt_or_ge g w.heap.size with hlt | hge
   ·exact hlt
   ·rw [Array.getElem?_eq_none hge] at hg; cases hg
  ·have h3 : cur.toList[j]? = some (Value.int k (L.getD j 0)) := by
    have : (cur.toList.take (L.length * 1))[j]? = some (Value.int k (L.getD j 0)) := by
     rw [hcur, List.getElem?_map, List.getElem?_eq_getElem hj, List.getD_eq_getElem?_getD, List.getElem?_eq_getElem hj]; rfl
    rw [List.getElem?_take] at this
    split at this
    ·exact this
    ·cases this
   simp only [World.cell?, hg, Nat.zero_add]
   simpa using h3
end
theorem run_append_nothing {P : Program} {w : World} (base : Nat) (t ty e : TypeId) (i : TypeInfo) (ht : P.underlying t = some (.slice e)) (hi : P.info? e = some i) {size : Nat}
  (v : Value) (n : Nat) (xs : List Value) (hown : w.ownsRow base e size v n xs) (c : Nat) : (Builtin.append_ #[t, t] ty #[v, .slice none 0 c]).run P w = .ok v w := by
 rcases hown.2 with ⟨rfl, rfl⟩ | ⟨g, cap, cur, rfl, _, _, hnc, _⟩
 ·simp [Builtin.append_, run_underlying ht, sizeOf, typeInfo, hi, Builtin.lenOf, Builtin.firstCells]
 ·simp [Builtin.append_, run_underlying ht, sizeOf, typeInfo, hi, Builtin.lenOf, Builtin.firstCells, hnc, storeCells]
theorem wpList_append_ints {P : Program} {w : World} {ops : Array Oper} {rest : List Oper} {o : Oper} {a : Act} {Q : Exit → Act → World → Prop} (hgd : o.guard = none) (s x : Operand) (t : TypeId)
  (ho : o.op = .call { callee := .builtin .append, args := #[s, x], argTypes := #[t, t] })
  (k : IntKind) (base : Nat) (e : TypeId) (i : TypeInfo) (bytes : Nat) (ht : P.underlying t = some (.slice e)) (hi : P.info? e = some i) (hz : i.zero = some (.int k 0))
  (hsize : i.size = 1) (hby : i.bytes = bytes) (hb8 : bytes ≤ 8)
  (v : Value) (L : List Int) (hs : a.eval s = v) (hown : OwnI k e w base v L) (A : Option Addr) (m c : Nat) (M : List Int) (hm : M.length = m) (hx : a.eval x = .slice A m c) (hR : IntsAt k w A M)
  (hlen : L.length + m ≤ 100000000) (hbase : base ≤ w.heap.size)
  (h : ∀ v' w', Hid (OwnI k e w' base v' (L ++ M)) → Below base w w' → wpList P ops Q rest (a.put o.dst v') w') : wpList P ops Q (o :: rest) a w := by
 subst hm
 have hb := Nat.mul_le_mul_left (L.length + M.length) hb8
 rcases A with _ | ad
 ·have h0 : M.length = 0 := by
   rcases Nat.eq_zero_or_pos M.length with h0 | h0
   ·exact h0
   ·obtain ⟨b, o', e1, _, _⟩ := hR h0; cases e1
  have hM : M = [] := List.eq_nil_of_length_eq_zero h0
  subst hM
  refine wpList_plain hgd fun K hK => ?_
  have hrun := run_append_nothing (P := P) (w := w) base t o.type e i ht hi v _ _ hown c
  unfold Oper.wp
  simp only [List.length_nil] at hx
  simp [execOp, ho, resolve, invoke, builtin, hs, hx, hrun, Result.andThen]
  exact hK _ _ (h v w (by rw [List.append_nil]; exact hown) (Below.refl _ _))
 ·refine wpList_append_own w hgd s x t ho base e i (.int k 0) 1 bytes ht hi hz hsize hby rfl (by decide) v L.length _ hs hown ad M.length c (M.map fun d => Value.int k d) hx (by simp) ?_ ?_ (by unfold maxLen; omega) (by omega) hbase ?_
  ·intro j u hj
   have hjl : j < M.length := by
    rcases Nat.lt_or_ge j M.length with h1 | h1
    ·exact h1
    ·rw [List.getElem?_eq_none (by simpa using h1)] at hj; cases hj
   obtain ⟨b, o', e1, _, hc⟩ := hR (by omega)
   injection e1 with e1
   subst e1
   have h2 := hc j hjl
   have h3 : u = .int k (M.getD j 0) := by
    rw [List.getElem?_map, List.getElem?_eq_getElem hjl] at hj
    simp at hj
    rw [← hj, List.getD_eq_getElem?_getD, List.getElem?_eq_getElem hjl]; rfl
   rw [h3, ← h2]
   unfold Addr.add
   split
   ·rename_i h0; subst h0; simp
   ·rfl
  ·intro u hu
   obtain ⟨d, _, rfl⟩ := List.mem_map.1 hu
   rfl
  ·intro v' w' h1 h2 _
   refine h v' w' ?_ ((Below.refl base w).grown h2 hbase (fun j hj => (World.ownsRow.lt hown j hj).1))
   show World.ownsRow _ _ _ _ _ _ _
   rw [List.length_append, List.map_append]
   exact h1
open Go.RowKit
section
variable {w w' : World} {b : Nat} {L : List Int}
end
theorem OwnI.form {k : IntKind} {e : TypeId} {w : World} {base : Nat} {v : Value} {L : List Int} (h : OwnI k e w base v L) (h0 : 0 < L.length) :
  ∃ g cap, v = .slice (some ⟨g, 0, none⟩) L.length cap ∧ base ≤ g ∧ g < w.heap.size ∧ (∀ i, i < L.length → w.cell? ⟨g, i, none⟩ = some (.int k (L.getD i 0))) ∧ (∀ i, w.frozen? ⟨g, i, none⟩ = false) ∧
   ∀ i x, i < L.length → OwnI k e (w.setCell ⟨g, i, none⟩ (.int k x)) base v (L.set i x) := by
 obtain ⟨h1, h2⟩ := h
 rcases h2 with ⟨_, hn⟩ | ⟨g, cap, cur, rfl, hb, hg, hn, hcap, hsz, hcur⟩
 ·omega
 ·have hlt : g < w.heap.size := by
   rcases Nat.lt_or_ge g w.heap.size with hlt | hge
   ·exact hlt
   ·rw [Array.getElem?_eq_none hge] at hg; cases hg
  refine ⟨g, cap, rfl, hb, hlt, fun i hi => ?_, fun i => by simp [World.frozen?, hg], fun i x hi => ⟨by simp, .inr ⟨g, cap, cur.setIfInBounds i (.int k x), by rw [List.length_set], hb, ?_, by rw [List.length_set]; exact hn, hcap, by simpa using hsz, ?_⟩⟩⟩
  ·have h3 : cur.toList[i]? = some (Value.int k (L.getD i 0)) := by
    have : (cur.toList.take (L.length * 1))[i]? = some (Value.int k (L.getD i 0)) := by
     rw [hcur, List.getElem?_map, List.getElem?_eq_getElem hi, List.getD_eq_getElem?_getD, List.getElem?_eq_getElem hi]; rfl
    rw [List.getElem?_take] at this
    split at this
    ·exact this
    ·cases this
   simp only [World.cell?, hg]
   simpa using h3
  ·simp [World.setCell, Array.getElem?_modify, hg]
  ·rw [Array.toList_setIfInBounds, List.length_set, List.take_set, hcur, List.map_set]
theorem OwnI.far {k : IntKind} {e : TypeId} {w : World} {base : Nat} {v : Value} {L : List Int} (h : OwnI k e w base v L) {g : Nat} (hne : v.ownBlock ≠ some g) (i : Nat) (u : Value) : OwnI k e (w.setCell ⟨g, i, none⟩ u) base v L :=
 World.ownsRow.kept h (grown_set (grown_refl w _) i u) (.inr hne)
structure TwoI (k : IntKind) (e : TypeId) (w : World) (base : Nat) (v1 v2 : Value) (L1 L2 : List Int) : Prop where
 o1 : OwnI k e w base v1 L1
 o2 : OwnI k e w base v2 L2
 ne : v1.ownBlock = none ∨ v1.ownBlock ≠ v2.ownBlock
theorem TwoI.symm {k : IntKind} {e : TypeId} {w : World} {base : Nat} {v1 v2 : Value} {L1 L2 : List Int} (h : TwoI k e w base v1 v2 L1 L2) : TwoI k e w base v2 v1 L2 L1 :=
 ⟨h.o2, h.o1, by
  rcases h.ne with h1 | h1
  ·cases h2 : v2.ownBlock with
   | none => exact .inl rfl
   | some b => right; rw [h1]; simp
  ·exact .inr (Ne.symm h1)⟩
theorem wpList_append_two {P : Program} (w : World) {ops : Array Oper} {rest : List Oper} {o : Oper} {a : Act} {Q : Exit → Act → World → Prop} (hgd : o.guard = none) (s x : Operand) (t : TypeId)
  (ho : o.op = .call { callee := .builtin .append, args := #[s, x], argTypes := #[t, t] })
  (k : IntKind) (base : Nat) (e : TypeId) (i : TypeInfo) (bytes : Nat) (ht : P.underlying t = some (.slice e)) (hi : P.info? e = some i) (hz : i.zero = some (.int k 0))
  (hsize : i.size = 1) (hby : i.bytes = bytes) (hb8 : bytes ≤ 8)
  (v v2 : Value) (L L2 : List Int) (hs : a.eval s = v) (hown : TwoI k e w base v v2 L L2) (X : Int) (c : Nat) (hx : a.eval x = .slice (some ⟨w.heap.size, 0, none⟩) 1 c)
  (hlen : L.length ≤ 100000000) (hbase : base ≤ w.heap.size)
  (h : ∀ v' w', Hid (TwoI k e w' base v' v2 (L ++ [X]) L2) → Below base w w' → wpList P ops Q rest (a.put o.dst v') w') : wpList P ops Q (o :: rest) a (w.alloc (.cells #[.int k X] e)) := by
 refine wpList_append_own_at (w.alloc (.cells #[.int k X] e)) hgd s x t ho base e i (.int k 0) 1 bytes ht hi hz hsize hby rfl (by decide) v L.length (L.map fun d => Value.int k d) hs (World.ownsRow.alloc hown.o1 _)
  ⟨w.heap.size, 0, none⟩ 1 c [.int k X] hx rfl ?_ ?_ ?_ ?_ ?_ ?_
 ·intro j u hj
  match j, hj with
  | 0, hj =>
   simp at hj; subst hj
   unfold World.cell? Addr.add
   rw [if_pos rfl]
   dsimp only
   rw [heap_alloc_new]
   rfl
 ·intro u hu; simp at hu; subst hu; rfl
 ·unfold maxLen; omega
 ·have : (L.length + 1) * bytes ≤ (L.length + 1) * 8 := Nat.mul_le_mul_left _ hb8
  omega
 ·simp; omega
 ·intro v' w' h1 h2 _ h4
  refine h v' w' ⟨?_, ?_, ?_⟩ ?_
  ·show World.ownsRow _ _ _ _ _ _ _
   rw [List.length_append, List.map_append]
   exact h1
  ·exact World.ownsRow.kept (World.ownsRow.alloc hown.o2 _) h2 (hown.symm.ne)
  ·rcases h4 with h4 | h4
   ·rw [h4]; exact hown.ne
   ·right
    rw [h4]
    intro e9
    have := (World.ownsRow.lt hown.o2 _ e9.symm).2
    simp at this
    omega
  ·refine ((Below.refl base w).alloc hbase _).grown h2 (by simp; omega) (fun j hj => ?_)
   exact (World.ownsRow.lt hown.o1 j hj).1
theorem rk_bt {R : List Int} {a b : Nat} (hb : b < R.length) (h : rk R a < rk R b) : bt R a b = true := by
 rcases bt_tri (R := R) (show a ≠ b by rintro rfl; omega) with h1 | h1
 ·exact h1
 ·have := rk_lt hb h1; omega
theorem order_is (R : List Int) : ∃ O : List Nat, O.Perm (List.range R.length) ∧ O.Pairwise fun a b => bt R a b = true := by
 let le : Nat → Nat → Bool := fun a b => !bt R b a
 have hp := List.mergeSort_perm (List.range R.length) le
 have htr : ∀ a b c : Nat, le a b = true → le b c = true → le a c = true := fun a b c h1 h2 => by
  simp only [le, Bool.not_eq_true'] at *
  rw [bt_false] at *
  omega
 have hto : ∀ a b : Nat, (le a b || le b a) = true := fun a b => by
  simp only [le]
  cases h : bt R b a with
  | false => rfl
  | true => rw [bt_asymm h]; rfl
 have hs := List.pairwise_mergeSort htr hto (List.range R.length)
 refine ⟨_, hp, ?_⟩
 have hn : ((List.range R.length).mergeSort le).Nodup := hp.nodup_iff.2 List.nodup_range
 refine (hs.and hn).imp ?_
 rintro a b ⟨h1, h2⟩
 rcases bt_tri (R := R) h2 with h | h
 ·exact h
 ·simp only [le, h] at h1; cases h1
theorem rk_sur (R : List Int) (k : Nat) (hk : k < R.length) : ∃ b, b < R.length ∧ rk R b = k := by
 obtain ⟨O, hp, hs⟩ := order_is R
 have hl : O.length = R.length := by rw [hp.length_eq, List.length_range]
 refine ⟨O[k]'(by omega), ?_, order_rk hp hs k (by omega)⟩
 exact List.mem_range.1 (hp.mem_iff.1 (List.getElem_mem _))
theorem best_rk {R : List Int} {k b : Nat} (hpos : ∀ i, i < R.length → 0 ≤ R.getD i 0) (hk : k < R.length) (hb : b < R.length)
  (hbest : ∀ i, i < R.length → ¬ ((if rk R b < k then -1 else R.getD b 0) < (if rk R i < k then -1 else R.getD i 0)) ∧ (i < b → ¬ ((if rk R b < k then -1 else R.getD b 0) = (if rk R i < k then -1 else R.getD i 0)))) : rk R b = k := by
 obtain ⟨c, hc, ek⟩ := rk_sur R k hk
 have h1 := hbest c hc
 rw [ek, if_neg (Nat.lt_irrefl k)] at h1
 have h0 := hpos c hc
 rcases Nat.lt_trichotomy (rk R b) k with h | h | h
 ·rw [if_pos h] at h1; omega
 ·exact h
 ·rw [if_neg (by omega)] at h1
  have := rk_bt (R := R) (a := c) hb (by omega)
  rw [bt_true] at this
  omega
theorem amtB_neg (n : Int) : amtB (-n) = amtB n := by
 unfold amtB
 rw [Bool.eq_iff_iff]
 simp only [Bool.and_eq_true, decide_eq_true_eq]
 omega
open Go.RowKit
theorem rmvalid_any (n : Int) (w : World) : Calls Try.prog 24 #[.int .i64 n] w fun e w' => e = .returned (.bool (amtB n)) ∧ w = w' := by
 unfold amtB
 by_cases h1 : (-1000000000000 : Int) ≤ n
 ·by_cases h2 : n ≤ 1000000000000
  ·rw [decide_eq_true h1, decide_eq_true h2]
   go_enter Try.func24, Try.ntmps24
   go_wp2
   go_ret
   exact ⟨rfl, rfl⟩
  ·rw [decide_eq_true h1, decide_eq_false h2]
   have h3 : decide (n ≤ 1000000000000) = false := decide_eq_false h2
   clear h2
   go_enter Try.func24, Try.ntmps24
   go_wp2
   go_ret
   exact ⟨rfl, rfl⟩
 ·rw [decide_eq_false h1]
  have h3 : decide ((-1000000000000 : Int) ≤ n) = false := decide_eq_false h1
  clear h1
  go_enter Try.func24, Try.ntmps24
  go_wp2
  go_ret
  exact ⟨rfl, rfl⟩
set_option maxRecDepth 20000 in
set_option maxHeartbeats 3200000 in
theorem rcheck_any (T : Int) (A : Option Addr) (c : Nat) (ws : List Int) (w : World) (hz : IntsAt .i64 w A ws) (hmax : ws.length ≤ 9223372036854775807) :
  Calls Try.prog 31 #[.int .i64 T, .slice A ws.length c] w fun e w' => e = .returned (.tuple #[.int .i64 (wsV T ws), .int .i64 (wsE T ws)]) ∧ Below w.heap.size w w' := by
 have hV := fun w => rmvalid_any T w
 have hB := Below.refl w.heap.size w
 cases h0 : amtB T
 ·have e1 : wsE T ws = 1 := by unfold wsE; rw [h0]; rfl
  have e2 : wsV T ws = 0 := by unfold wsV; rw [e1]; rfl
  rw [e1, e2]
  rw [h0] at hV
  have HV := Lib.hid hV
  clear hV hz e1 e2
  go_enter Try.func31, Try.ntmps31
  go_wp2_with (go_at_call 24; refine (HV.out _).mono ?_; rintro e w' ⟨rfl, rfl⟩)
  go_ret2
  exact ⟨rfl, hB⟩
 ·rw [h0] at hV
  have HV := Lib.hid hV
  clear hV
  by_cases hlo : ws.length < 1
  ·have e1 : wsE T ws = 1 := by unfold wsE; rw [h0, decide_eq_false (show ¬ 1 ≤ ws.length by omega)]; rfl
   have e2 : wsV T ws = 0 := by unfold wsV; rw [e1]; rfl
   rw [e1, e2]
   have hl : ws.length = 0 := by omega
   rw [hl]
   clear e1 e2 hz hlo hl hmax
   go_enter Try.func31, Try.ntmps31
   go_wp2_with (go_at_call 24; refine (HV.out _).mono ?_; rintro e w' ⟨rfl, rfl⟩)
   go_ret2
   exact ⟨rfl, hB⟩
  ·by_cases hhi : 1000 < ws.length
   ·have e1 : wsE T ws = 1 := by unfold wsE; rw [h0, decide_eq_false (show ¬ ws.length ≤ 1000 by omega), Bool.and_false]; rfl
    have e2 : wsV T ws = 0 := by unfold wsV; rw [e1]; rfl
    rw [e1, e2]
    generalize ws.length = len at *
    have hd1 : decide ((len : Int) < 1) = false := decide_eq_false (by omega)
    have hd2 : (1000 : Int) < (len : Int) := by omega
    clear e1 e2 hz hlo hhi
    go_enter Try.func31, Try.ntmps31
    go_wp2_with (go_at_call 24; refine (HV.out _).mono ?_; rintro e w' ⟨rfl, rfl⟩)
    go_ret2
    exact ⟨rfl, hB⟩
   ·have hE : wsE T ws = if ws.all wgB = true then if ws.sum = 0 then 10 else 0 else 1 := by unfold wsE; rw [h0, decide_eq_true (show 1 ≤ ws.length by omega), decide_eq_true (show ws.length ≤ 1000 by omega)]; rfl
    obtain ⟨len, hlen⟩ : ∃ len, ws.length = len := ⟨_, rfl⟩
    rw [hlen] at hlo hhi hmax ⊢
    have HL := Lib.hid hlen
    have HZ := Lib.hid hz
    have HE := Lib.hid hE
    have hd1 : decide ((len : Int) < 1) = false := decide_eq_false (by omega)
    have hd2 : decide ((1000 : Int) < (len : Int)) = false := decide_eq_false (by omega)
    clear hlen hz hE hmax
    go_enter Try.func31, Try.ntmps31
    go_wp2_with (go_at_call 24; refine (HV.out _).mono ?_; rintro e w' ⟨rfl, rfl⟩)
    go_loopg [6, 7] len (fun kx s6 s24 wr => ∃ (k : Nat) (S : Int), s6 = .int .i64 S ∧ s24 = .int .i64 k ∧ k ≤ len ∧ len - k ≤ kx ∧ 0 ≤ S ∧ S ≤ (k : Int) * 1000000 ∧ Hid (S = (ws.take k).sum) ∧ Hid ((ws.take k).all wgB = true) ∧ wr = w)
    case atStart => exact ⟨0, 0, rfl, rfl, by omega, by omega, by omega, by omega, Lib.hid (by simp), Lib.hid (by simp), rfl⟩
    case round =>
     obtain ⟨k, S, rfl, rfl, hk, hkx, hS0, hS1, HS, HA, rfl⟩ := hrel
     by_cases hlt : k < len
     ·have hltz : (k : Int) < (len : Int) := by omega
      obtain ⟨b, off, rfl, hbw, hcs⟩ := HZ.out (by rw [HL.out]; omega)
      have hc := hcs k (by rw [HL.out]; exact hlt)
      obtain ⟨x, hx⟩ : ∃ x, ws.getD k 0 = x := ⟨_, rfl⟩
      rw [hx] at hc
      have HX := Lib.hid hx
      clear hx hcs
      cases hok : wgB x
      ·have hno : Hid (ws.all wgB = false) := Lib.hid (all_false_at (by rw [HL.out]; exact hlt) (by rw [HX.out]; exact hok))
       have e1 : Hid (wsE T ws = 1) := Lib.hid (by rw [HE.out, hno.out]; rfl)
       have e2 : Hid (wsV T ws = 0) := Lib.hid (by unfold wsV; rw [e1.out]; rfl)
       rcases wgB_no hok with h1 | h1
       ·clear hok
        go_wp2_with fail
        go_ret2
        exact ⟨by rw [e1.out, e2.out]; rfl, hB⟩
       ·have h2 : decide (x < 0) = false := decide_eq_false (by omega)
        clear hok
        go_wp2_with fail
        go_ret2
        exact ⟨by rw [e1.out, e2.out]; rfl, hB⟩
      ·obtain ⟨x1, x2⟩ := wgB_is hok
       have HA2 : Hid ((ws.take (k + 1)).all wgB = true) := Lib.hid (by rw [take_all1 ws k (by rw [HL.out]; exact hlt), HA.out, HX.out, hok]; rfl)
       have HS2 : Hid (S + x = (ws.take (k + 1)).sum) := Lib.hid (by rw [take_sum1 ws k (by rw [HL.out]; exact hlt), HS.out, HX.out])
       have h2 : decide (x < 0) = false := decide_eq_false (by omega)
       have h3 : decide (1000000 < x) = false := decide_eq_false (by omega)
       clear hok
       go_wp2_with fail
       go_roundg (len - (k + 1))
       case measure => omega
       case rel => exact ⟨k + 1, S + x, rfl, by go_num, by omega, by omega, by omega, by omega, HS2, HA2, rfl⟩
     ·have hkl : k = len := by omega
      have hltz : ¬ (k : Int) < (len : Int) := by omega
      have hall : ws.all wgB = true := by have := HA.out; rwa [List.take_of_length_le (by rw [HL.out]; omega)] at this
      have hsum : ws.sum = S := by have := HS.out; rw [List.take_of_length_le (by rw [HL.out]; omega)] at this; exact this.symm
      have hE2 : Hid (wsE T ws = if S = 0 then 10 else 0) := Lib.hid (by rw [HE.out, if_pos hall, hsum])
      have hV2 : Hid (wsV T ws = if wsE T ws = 0 then S else 0) := Lib.hid (by unfold wsV; rw [hsum])
      clear hall hsum
      by_cases hs0 : S = 0
      ·have hs1 : (S == 0) = true := by simp [hs0]
       have e1 : Hid (wsE T ws = 10) := Lib.hid (by rw [hE2.out, if_pos hs0])
       have e2 : Hid (wsV T ws = 0) := Lib.hid (by rw [hV2.out, e1.out]; rfl)
       clear hE2 hV2
       go_wp2_with fail
       go_ret2
       exact ⟨by rw [e1.out, e2.out]; rfl, hB⟩
      ·have hs1 : (S == 0) = false := by simp [hs0]
       have e1 : Hid (wsE T ws = 0) := Lib.hid (by rw [hE2.out, if_neg hs0])
       have e2 : Hid (wsV T ws = S) := Lib.hid (by rw [hV2.out, e1.out]; rfl)
       clear hE2 hV2
       go_wp2_with fail
       go_ret2
       exact ⟨by rw [e1.out, e2.out]; rfl, hB⟩
def restL (R : List Int) (k : Nat) : List Int := (List.range R.length).map fun i => if rk R i < k then -1 else R.getD i 0
theorem restL_len (R : List Int) (k : Nat) : (restL R k).length = R.length := by simp [restL]
theorem restL_at {R : List Int} {k i : Nat} (h : i < R.length) : (restL R k).getD i 0 = if rk R i < k then -1 else R.getD i 0 := by
 simp [restL, List.getD_eq_getElem?_getD, h]
theorem restL_zero (R : List Int) : restL R 0 = R := by
 apply List.ext_getElem
 ·simp [restL]
 ·intro i h1 h2; simp [restL, List.getD_eq_getElem?_getD, h2]
theorem restL_next {R : List Int} {k b : Nat} (hb : b < R.length) (hr : rk R b = k) : restL R (k + 1) = (restL R k).set b (-1) := by
 apply List.ext_getElem
 ·simp [restL]
 ·intro i h1 h2
  have hi : i < R.length := by simpa [restL] using h1
  rw [List.getElem_set]
  by_cases c : b = i
  ·subst c
   rw [if_pos rfl]
   simp [restL, hr]
  ·rw [if_neg c]
   have : rk R i ≠ k := fun h => c (rk_inj (R := R) (by omega) (by omega) (by omega))
   simp only [restL, List.getElem_map, List.getElem_range]
   by_cases d : rk R i < k
   ·rw [if_pos (by omega), if_pos d]
   ·rw [if_neg (by omega), if_neg d]
theorem take_snoc (L : List Int) (k : Nat) (h : k < L.length) : L.take (k + 1) = L.take k ++ [L.getD k 0] := by
 rw [List.take_succ_eq_append_getElem h, List.getD_eq_getElem?_getD, List.getElem?_eq_getElem h]; rfl
theorem take_getD {L : List Int} {k i : Nat} (h : i < k) : (L.take k).getD i 0 = L.getD i 0 := by
 rw [List.getD_eq_getElem?_getD, List.getD_eq_getElem?_getD, List.getElem?_take, if_pos h]
set_option maxRecDepth 20000 in
set_option maxHeartbeats 6400000 in
theorem rsplitP_any (T : Int) (A : Option Addr) (c : Nat) (ws : List Int) (w : World) (hz : IntsAt .i64 w A ws) (hE : wsE T ws = 0) (hT : 0 ≤ T) :
  Calls Try.prog 17 #[.int .i64 T, .slice A ws.length c] w fun e w' => ∃ v, e = .returned (.tuple #[v, .int .i64 0]) ∧ OwnI .i64 3 w' w.heap.size v (partsP T ws.sum ws) ∧ Below w.heap.size w w' := by
 have hok := wsE_ok hE
 have hS := rcheck_any T A c ws w hz (by have := hok.len; omega)
 have hV : wsV T ws = ws.sum := by unfold wsV; rw [if_pos hE]
 rw [hV, hE] at hS
 obtain ⟨W, hW⟩ : ∃ W, ws.sum = W := ⟨_, rfl⟩
 rw [hW] at hS ⊢
 have hW0 : 0 < W := by rw [← hW]; exact hok.pos
 have hW1 : W ≤ 1000000000 := by rw [← hW]; exact hok.le
 obtain ⟨_, hT1⟩ := hok.amt
 obtain ⟨hl0, hl1⟩ := hok.len
 obtain ⟨n, hlen⟩ : ∃ n, ws.length = n := ⟨_, rfl⟩
 obtain ⟨b, off, rfl, hbw, hcs⟩ := hz hl0
 rw [hlen] at hl0 hl1 hcs hS ⊢
 have HL := Lib.hid hlen
 have HCS := Lib.hid hcs
 have HOK := Lib.hid hok
 have HW := Lib.hid hW
 have HS := Lib.hid hS
 clear hz hok hW hlen hcs hS hV hE
 obtain ⟨i0, hi, hz0, hz1, hz2⟩ := info_parts infoI_int
 obtain ⟨s0, hs0⟩ : ∃ s0, w.heap.size = s0 := ⟨_, rfl⟩
 have HS0 := Lib.hid hs0
 have hB := Below.refl w.heap.size w
 rw [hs0] at hB
 obtain ⟨Q, hQ⟩ : ∃ Q, quoL T W ws = Q := ⟨_, rfl⟩
 obtain ⟨R, hRR⟩ : ∃ R, remL T W ws = R := ⟨_, rfl⟩
 have HQ := Lib.hid hQ
 have HRR := Lib.hid hRR
 have HQL : Hid (Q.length = n) := Lib.hid (by rw [← hQ]; simp [quoL]; exact HL.out)
 have HRL : Hid (R.length = n) := Lib.hid (by rw [← hRR]; simp [remL]; exact HL.out)
 have hTd : decide (T < 0) = false := decide_eq_false (by omega)
 have hbs : b < s0 := by omega
 clear hQ hRR hs0
 go_enter Try.func17, Try.ntmps17
 go_wp2_with (go_at_call 31; refine HS.out.mono ?_; rintro e w1 ⟨rfl, hb⟩; replace hB := hB.trans (hb.mono (by rw [HS0.out]; exact Nat.le_refl _)); clear hb)
 have HTW : Hid (TwoI .i64 3 w1 s0 (.slice none 0 0) (.slice none 0 0) (Q.take 0) (R.take 0)) := Lib.hid ⟨OwnI.nil, OwnI.nil, .inl rfl⟩
 go_loopg [11, 12, 13, 14] n (fun kx s11 s12 s13 s14 wr => ∃ (k : Nat) (l : Int), s13 = .int .i64 l ∧ s14 = .int .i64 k ∧ k ≤ n ∧ n - k ≤ kx ∧ Hid (l = T - (Q.take k).sum) ∧ 0 ≤ l ∧ l ≤ T ∧ Hid (TwoI .i64 3 wr s0 s11 s12 (Q.take k) (R.take k)) ∧ Below s0 w wr)
 case atStart => exact ⟨0, T, rfl, rfl, by omega, by omega, Lib.hid (by simp), by omega, by omega, HTW, hB⟩
 case round =>
  clear HTW hB
  obtain ⟨k, l, rfl, rfl, hk, hkx, HLE, hl2, hl3, HTW, hB⟩ := hrel
  by_cases hlt : k < n
  ·have hltz : (k : Int) < (n : Int) := by omega
   have hc := (hB.cell (p := ⟨b, off + k, none⟩) hbs).trans (HCS.out k hlt)
   obtain ⟨x, hx⟩ : ∃ x, ws.getD k 0 = x := ⟨_, rfl⟩
   have hxb := HOK.out.all x (by rw [← hx]; exact mem_getD (by rw [HL.out]; exact hlt))
   rw [hx] at hc
   obtain ⟨P, q, r, e1, e2, e3, e4, e5, p1, p2, q1, q2, r1, r2⟩ := quo_one (T := T) (W := W) ⟨hT, hT1⟩ hW0 hxb
   have hq : Hid (Q.getD k 0 = q) := Lib.hid (by rw [← HQ.out, quoL_at (by rw [HL.out]; exact hlt), hx, e1, e2])
   have hr : Hid (R.getD k 0 = r) := Lib.hid (by rw [← HRR.out, remL_at (by rw [HL.out]; exact hlt), hx, e1, e3])
   have hW9 : ¬ W = 0 := by omega
   have hdv : IntKind.i64.wrap (P.tdiv W) = q := by rw [e4, IntKind.wrap_i64]; omega
   have hlk := left_k (T := T) (W := W) hT hW0 (fun y hy => (HOK.out.all y hy).1) HW.out (k + 1)
   rw [HQ.out, take_sum1 Q k (by rw [HQL.out]; exact hlt), hq.out] at hlk
   have hlk1 : 0 ≤ l - q := by have := HLE.out; omega
   have hlk2 : l - q ≤ T := by have := HLE.out; omega
   have HLE2 : Hid (l - q = T - (Q.take (k + 1)).sum) := Lib.hid (by rw [take_sum1 Q k (by rw [HQL.out]; exact hlt), hq.out]; have := HLE.out; omega)
   have hl9 : (Q.take k).length ≤ 100000000 := by rw [List.length_take]; omega
   have hl8 : (R.take k).length ≤ 100000000 := by rw [List.length_take]; omega
   have HL9 := Lib.hid hl9
   have HL8 := Lib.hid hl8
   have hsz := hB.size
   have hs9 : s0 ≤ wr.heap.size := by have := HS0.out; omega
   clear hx e2 e3 e4 hlk hl9 hl8 hsz
   have HQ1 : Hid (Q.take k ++ [q] = Q.take (k + 1)) := Lib.hid (by rw [take_snoc Q k (by rw [HQL.out]; exact hlt), hq.out])
   have HR1 : Hid (R.take k ++ [r] = R.take (k + 1)) := Lib.hid (by rw [take_snoc R k (by rw [HRL.out]; exact hlt), hr.out])
   have HQK : Hid ((Q.take (k + 1)).length = k + 1) := Lib.hid (by rw [List.length_take, HQL.out]; omega)
   go_wp2_with (first
    | (at_builtin; refine wpList_append_two wr rfl (.tmp 57) (.tmp 66) 22 rfl .i64 s0 3 i0 8 Try.underlying22 hi hz0 hz1 hz2 (by omega) u11 u12 _ _ (by rfl) HTW.out q 1 rfl HL9.out hs9 ?_; intro v1 w3 ho1 hb1; replace ho1 := ho1.out; rw [HQ1.out] at ho1; replace ho1 := Lib.hid ho1; replace hc := (hb1.cell (p := ⟨b, off + k, none⟩) hbs).trans hc; have hs8 : s0 ≤ w3.heap.size := Nat.le_trans hs9 hb1.size; replace hB := hB.trans hb1; clear hb1)
    | (at_builtin; refine wpList_append_two w3 rfl (.tmp 68) (.tmp 77) 22 rfl .i64 s0 3 i0 8 Try.underlying22 hi hz0 hz1 hz2 (by omega) u12 v1 _ _ (by rfl) ho1.out.symm r 1 rfl HL8.out hs8 ?_; intro v2 w4 ho2 hb2; replace ho2 := ho2.out; rw [HR1.out] at ho2; obtain ⟨g1, cp1, ev1, hg1, hg1w, hcg, _, _⟩ := ho2.o2.form (by rw [HQK.out]; omega); rw [HQK.out] at ev1 hcg; subst ev1; replace hcg := hcg k (by omega); rw [take_getD (by omega), hq.out] at hcg; replace ho2 := Lib.hid ho2.symm; replace hB := hB.trans hb2; clear hb2))
   go_roundg (n - (k + 1))
   case measure => omega
   case rel => exact ⟨k + 1, l - q, rfl, by go_num, by omega, by omega, HLE2, hlk1, hlk2, ho2, hB⟩
  ·have hkn : k = n := by omega
   have hltz : ¬ (k : Int) < (n : Int) := by omega
   have hTW := HTW.out
   rw [List.take_of_length_le (by rw [HQL.out]; omega), List.take_of_length_le (by rw [HRL.out]; omega)] at hTW
   have hleft := left_in (T := T) (W := W) hW0 HW.out
   have hll : leftOf T W ws = l := by unfold leftOf; rw [HQ.out]; have := HLE.out; rw [List.take_of_length_le (by rw [HQL.out]; omega)] at this; omega
   rw [hll, HRR.out, HL.out] at hleft
   obtain ⟨m, rfl⟩ : ∃ m : Nat, l = (m : Int) := ⟨l.toNat, by omega⟩
   have hmn : m < n := by omega
   have HM : Hid (partsP T W ws = givenL Q R m) := Lib.hid (by unfold partsP; rw [HQ.out, HRR.out, hll]; rfl)
   obtain ⟨g1, cp1, ev1, hg1, _, _, _, _⟩ := hTW.o1.form (by rw [HQL.out]; omega)
   obtain ⟨g2, cp2, ev2, hg2, _, _, _, _⟩ := hTW.o2.form (by rw [HRL.out]; omega)
   rw [HQL.out] at ev1
   rw [HRL.out] at ev2
   subst ev1
   subst ev2
   have hg12 : g1 ≠ g2 := by
    rcases hTW.ne with h | h
    ·cases h
    ·intro e; subst e; exact h rfl
   have HT0 : Hid (TwoI .i64 3 wr s0 (.slice (some ⟨g1, 0, none⟩) n cp1) (.slice (some ⟨g2, 0, none⟩) n cp2) (givenL Q R 0) (restL R 0)) := Lib.hid (by rw [givenL_zero, restL_zero]; exact hTW)
   have HB0 : Below s0 w wr := hB
   have hRpos : Hid (∀ i, i < R.length → 0 ≤ R.getD i 0) := Lib.hid (fun i hi => (rem_in (T := T) (ws := ws) hW0 _ (by rw [HRR.out]; exact mem_getD hi)).1)
   clear hTW HTW hleft hll hB HLE
   go_wp2_with fail
   go_loopg [13, 15, 16] m (fun kx s13 s15 s16 wr => ∃ (j : Nat), s13 = .int .i64 ((m : Int) - j) ∧ j ≤ m ∧ m - j ≤ kx ∧ Hid (TwoI .i64 3 wr s0 (.slice (some ⟨g1, 0, none⟩) n cp1) (.slice (some ⟨g2, 0, none⟩) n cp2) (givenL Q R j) (restL R j)) ∧ Below s0 w wr)
   case atStart => exact ⟨0, by first | rfl | go_num, by omega, by omega, HT0, HB0⟩
   case round =>
    clear HT0 HB0
    obtain ⟨j, rfl, hj, hkx2, HT, hB⟩ := hrel
    by_cases hlt2 : j < m
    ·have hltz2 : 0 < (m : Int) - j := by omega
     go_wp2_with fail
     have HT0 := HT
     have hB0 := hB
     clear HT hB
     go_loopg [15, 16] n (fun kx s15 s16 wr => ∃ (best i : Nat), s15 = .int .i64 best ∧ s16 = .int .i64 i ∧ best < i ∧ i ≤ n ∧ n - i ≤ kx ∧ Hid (∀ x, x < i → ¬ ((restL R j).getD best 0 < (restL R j).getD x 0) ∧ (x < best → ¬ ((restL R j).getD best 0 = (restL R j).getD x 0))) ∧ Hid (TwoI .i64 3 wr s0 (.slice (some ⟨g1, 0, none⟩) n cp1) (.slice (some ⟨g2, 0, none⟩) n cp2) (givenL Q R j) (restL R j)) ∧ Below s0 w wr)
     case atStart => exact ⟨0, 1, rfl, rfl, by omega, by omega, by omega, Lib.hid (fun x hx => ⟨by rw [show x = 0 by omega]; exact Int.lt_irrefl _, fun h => by omega⟩), HT0, hB0⟩
     case round =>
      clear HT0 hB0
      obtain ⟨best, i, rfl, rfl, hbi, hin, hkx3, HM2, HT, hB⟩ := hrel
      by_cases hlt3 : i < n
      ·have hltz3 : (i : Int) < (n : Int) := by omega
       have hbz : (best : Int) < (n : Int) := by omega
       obtain ⟨g9, cp9, ev9, _, _, hcg, _, _⟩ := HT.out.o2.form (by rw [restL_len, HRL.out]; omega)
       rw [restL_len, HRL.out] at ev9 hcg
       cases ev9
       have c1 := hcg i hlt3
       have c2 := hcg best (by omega)
       have hM2 := HM2.out
       obtain ⟨x, hx⟩ : ∃ x, (restL R j).getD i 0 = x := ⟨_, rfl⟩
       obtain ⟨y, hy⟩ : ∃ y, (restL R j).getD best 0 = y := ⟨_, rfl⟩
       rw [hx] at c1
       rw [hy] at c2 hM2
       by_cases hxy : y < x
       ·have HM3 : Hid (∀ z, z < i + 1 → ¬ ((restL R j).getD i 0 < (restL R j).getD z 0) ∧ (z < i → ¬ ((restL R j).getD i 0 = (restL R j).getD z 0))) := Lib.hid (fun z hz => by
         rw [hx]
         by_cases e : z = i
         ·subst e; rw [hx]; exact ⟨by omega, fun h => by omega⟩
         ·have := (hM2 z (by omega)).1; exact ⟨by omega, fun h => by omega⟩)
        clear hx hy hcg hM2
        go_wp2_with fail
        go_quiet (fail)
        have HT2 : Hid (TwoI .i64 3 (World.drewN wr nq) s0 (.slice (some ⟨g1, 0, none⟩) n cp1) (.slice (some ⟨g2, 0, none⟩) n cp2) (givenL Q R j) (restL R j)) := Lib.hid ⟨HT.out.o1, HT.out.o2, HT.out.ne⟩
        replace hB := below_drewN hB nq
        clear HT c1 c2
        generalize World.drewN wr nq = W1 at *
        go_wp2_with fail
        go_roundg (n - (i + 1))
        case measure => omega
        case rel => exact ⟨i, i + 1, rfl, by go_num, by omega, by omega, by omega, HM3, HT2, hB⟩
       ·have hxy' : decide (y < x) = false := decide_eq_false hxy
        have HM3 : Hid (∀ z, z < i + 1 → ¬ ((restL R j).getD best 0 < (restL R j).getD z 0) ∧ (z < best → ¬ ((restL R j).getD best 0 = (restL R j).getD z 0))) := Lib.hid (fun z hz => by
         rw [hy]
         by_cases e : z = i
         ·subst e; rw [hx]; exact ⟨hxy, fun h => by omega⟩
         ·exact hM2 z (by omega))
        clear hx hy hcg hM2 hxy
        go_wp2_with fail
        go_quiet (fail)
        have HT2 : Hid (TwoI .i64 3 (World.drewN wr nq) s0 (.slice (some ⟨g1, 0, none⟩) n cp1) (.slice (some ⟨g2, 0, none⟩) n cp2) (givenL Q R j) (restL R j)) := Lib.hid ⟨HT.out.o1, HT.out.o2, HT.out.ne⟩
        replace hB := below_drewN hB nq
        clear HT c1 c2
        generalize World.drewN wr nq = W1 at *
        go_wp2_with fail
        go_roundg (n - (i + 1))
        case measure => omega
        case rel => exact ⟨best, i + 1, rfl, by go_num, by omega, by omega, by omega, HM3, HT2, hB⟩
      ·have hin2 : i = n := by omega
       have hltz3 : ¬ (i : Int) < (n : Int) := by omega
       have hbn : best < n := by omega
       have hbz : (best : Int) < (n : Int) := by omega
       have hrk : rk R best = j := best_rk hRpos.out (by rw [HRL.out]; omega) (by rw [HRL.out]; omega) fun z hz => by
        have h := HM2.out z (by rw [HRL.out] at hz; omega)
        rw [restL_at (by rw [HRL.out]; omega), restL_at hz] at h
        exact h
       obtain ⟨g9, cp9, ev9, _, _, hcg, hfg, hset1⟩ := HT.out.o1.form (by rw [givenL_len, HQL.out]; omega)
       rw [givenL_len, HQL.out] at ev9 hcg hset1
       cases ev9
       obtain ⟨g8, cp8, ev8, _, _, hcg2, hfg2, _⟩ := HT.out.o2.form (by rw [restL_len, HRL.out]; omega)
       rw [restL_len, HRL.out] at ev8 hcg2
       cases ev8
       have c1 := hcg best hbn
       have f1 := hfg best
       have c2 := hcg2 best hbn
       have f2 := hfg2 best
       obtain ⟨v, hv⟩ : ∃ v, (givenL Q R j).getD best 0 = v := ⟨_, rfl⟩
       have hvb : 0 ≤ v ∧ v ≤ 1000000000000000001 := by
        have hxb := HOK.out.all (ws.getD best 0) (mem_getD (by rw [HL.out]; exact hbn))
        obtain ⟨P, q, r, e1, e2, e3, e4, e5, p1, p2, q1, q2, r1, r2⟩ := quo_one (T := T) (W := W) ⟨hT, hT1⟩ hW0 hxb
        have hq : Q.getD best 0 = q := by rw [← HQ.out, quoL_at (by rw [HL.out]; exact hbn), e1, e2]
        rw [← hv, givenL_at (by rw [HQL.out]; exact hbn), hq]
        split <;> omega
       obtain ⟨v1, v2⟩ := hvb
       rw [hv] at c1
       have T1 : TwoI .i64 3 (wr.setCell ⟨g1, best, none⟩ (.int .i64 (v + 1))) s0 (.slice (some ⟨g1, 0, none⟩) n cp1) (.slice (some ⟨g2, 0, none⟩) n cp2) (givenL Q R (j + 1)) (restL R j) := by
        refine ⟨?_, HT.out.o2.far (by simp [Value.ownBlock]; omega) _ _, HT.out.ne⟩
        rw [givenL_next (by rw [HQL.out, HRL.out]) (by rw [HQL.out]; exact hbn) hrk, hv]
        exact hset1 best (v + 1) hbn
       obtain ⟨g7, cp7, ev7, _, _, hcg3, hfg3, hset2⟩ := T1.o2.form (by rw [restL_len, HRL.out]; omega)
       rw [restL_len, HRL.out] at ev7 hcg3 hset2
       cases ev7
       have c3 := hcg3 best hbn
       have f3 := hfg3 best
       have T2 : TwoI .i64 3 ((wr.setCell ⟨g1, best, none⟩ (.int .i64 (v + 1))).setCell ⟨g2, best, none⟩ (.int .i64 (-1))) s0 (.slice (some ⟨g1, 0, none⟩) n cp1) (.slice (some ⟨g2, 0, none⟩) n cp2) (givenL Q R (j + 1)) (restL R (j + 1)) := by
        refine ⟨T1.o1.far (by simp [Value.ownBlock]; omega) _ _, ?_, T1.ne⟩
        rw [restL_next (by rw [HRL.out]; exact hbn) hrk]
        exact hset2 best (-1) hbn
       have HT2 := Lib.hid T2
       have hB2 : Below s0 w ((wr.setCell ⟨g1, best, none⟩ (.int .i64 (v + 1))).setCell ⟨g2, best, none⟩ (.int .i64 (-1))) := Below.setCell (p := ⟨g2, best, none⟩) (Below.setCell (p := ⟨g1, best, none⟩) hB hg1 _) hg2 _
       clear T1 T2 hcg hfg hset1 hcg2 hfg2 hcg3 hfg3 hset2 hv HT hB hrk HM2
       go_wp2_with fail
       go_roundg (m - (j + 1))
       case measure => omega
       case rel => exact ⟨j + 1, by go_num, by omega, by omega, HT2, hB2⟩
    ·have hjm : j = m := by omega
     have hltz2 : ¬ 0 < (m : Int) - j := by omega
     go_wp2_with fail
     go_ret2
     exact ⟨_, rfl, by rw [HM.out, ← hjm, HS0.out]; exact HT.out.o1, by rw [HS0.out]; exact hB⟩
def negK (L : List Int) (k : Nat) : List Int := (L.take k).map (fun x => -x) ++ L.drop k
theorem negK_len (L : List Int) (k : Nat) : (negK L k).length = L.length := by simp [negK]; omega
theorem negK_zero (L : List Int) : negK L 0 = L := by simp [negK]
theorem negK_all {L : List Int} {k : Nat} (h : L.length ≤ k) : negK L k = L.map fun x => -x := by
 unfold negK; rw [List.take_of_length_le h, List.drop_eq_nil_of_le h, List.append_nil]
theorem negK_at {L : List Int} {k : Nat} (h : k < L.length) : (negK L k).getD k 0 = L.getD k 0 := by
 simp [negK, List.getD_eq_getElem?_getD, List.getElem?_append, Nat.min_eq_left (Nat.le_of_lt h)]
theorem negK_next {L : List Int} {k : Nat} (h : k < L.length) : (negK L k).set k (-(L.getD k 0)) = negK L (k + 1) := by
 apply List.ext_getElem
 ·rw [List.length_set, negK_len, negK_len]
 ·intro i h1 h2
  have hi : i < L.length := by rw [negK_len] at h2; exact h2
  rw [List.getElem_set]
  by_cases e : k = i
  ·subst e
   rw [if_pos rfl]
   simp only [negK, List.getElem_append, List.length_map, List.length_take]
   rw [dif_pos (by omega)]
   simp [List.getD_eq_getElem?_getD, h]
  ·rw [if_neg e]
   simp only [negK, List.getElem_append, List.length_map, List.length_take]
   by_cases c : i < k
   ·rw [dif_pos (by omega), dif_pos (by omega)]; simp
   ·rw [dif_neg (by omega), dif_neg (by omega), List.getElem_drop, List.getElem_drop]
    congr 1; omega
theorem wsE_neg {T : Int} {ws : List Int} : wsE (-T) ws = wsE T ws := by unfold wsE; rw [amtB_neg]
set_option maxRecDepth 20000 in
set_option maxHeartbeats 3200000 in
theorem rsplit_any (T : Int) (A : Option Addr) (c : Nat) (ws : List Int) (w : World) (hz : IntsAt .i64 w A ws) (hmax : ws.length ≤ 9223372036854775807) :
  Calls Try.prog 17 #[.int .i64 T, .slice A ws.length c] w fun e w' => ∃ v, e = .returned (.tuple #[v, .int .i64 (wsE T ws)]) ∧ SlR w' v (splitL T ws) ∧ Below w.heap.size w w' := by
 by_cases hE : wsE T ws = 0
 ·have hok := wsE_ok hE
  have hL : splitL T ws = partsL T ws.sum ws := by unfold splitL; rw [if_pos hE]
  rw [hL]
  by_cases hneg : T < 0
  ·have hP := fun w h => rsplitP_any (-T) A c ws w h (by rw [wsE_neg]; exact hE) (by omega)
   have hS := rcheck_any T A c ws w hz hmax
   have hV : wsV T ws = ws.sum := by unfold wsV; rw [if_pos hE]
   rw [hV, hE] at hS
   rw [hE]
   have hpl : partsL T ws.sum ws = (partsP (-T) ws.sum ws).map fun x => -x := by unfold partsL; rw [if_pos hneg]
   have hbd := partsP_bd (T := -T) (by have := hok.amt; omega) hok.neg rfl
   have hpl2 : (partsP (-T) ws.sum ws).length = ws.length := partsP_len _ _ _
   have hT0 := hok.amt
   obtain ⟨hT1, hT2⟩ := hT0
   have hlen1 : ws.length ≤ 1000 := hok.len.2
   have hlen0 : 0 < ws.length := hok.len.1
   rw [hpl]
   generalize partsP (-T) ws.sum ws = PP at *
   generalize ws.sum = W at *
   obtain ⟨n, hn⟩ : ∃ n, ws.length = n := ⟨_, rfl⟩
   rw [hn] at hS hP hlen1 hlen0 hpl2 ⊢
   have HS := Lib.hid hS
   have HP := Lib.hid hP
   have HZ := Lib.hid hz
   have HPL := Lib.hid hpl2
   have HBD := Lib.hid hbd
   obtain ⟨s0, hs0⟩ : ∃ s0, w.heap.size = s0 := ⟨_, rfl⟩
   have HS0 := Lib.hid hs0
   have hB := Below.refl w.heap.size w
   clear hS hP hz hpl2 hpl hV hL hE hn hmax hok hbd
   go_enter Try.func17, Try.ntmps17
   go_wp2_with (first | (go_at_call 31; refine HS.out.mono ?_; rintro e w1 ⟨rfl, hb⟩; replace hB := below_more hB hb; clear hb) | (go_at_call 17; refine (HP.out _ (HZ.out.up hB)).mono ?_; rintro e w2 ⟨v, rfl, hO, hb⟩; have hsz1 := hB.size; replace hB := below_more hB hb; clear hb; replace hO := Lib.hid hO))
   obtain ⟨g, cp, ev, hg1, _, _, _, _⟩ := hO.out.form (by rw [HPL.out]; omega)
   rw [HPL.out] at ev
   subst ev
   have hg : s0 ≤ g := by have := HS0.out; omega
   have hO1 : Hid (OwnI .i64 3 w2 w1.heap.size (.slice (some ⟨g, 0, none⟩) n cp) (negK PP 0)) := Lib.hid (by rw [negK_zero]; exact hO.out)
   have hB1 : Below s0 w w2 := by rw [← hs0]; exact hB
   obtain ⟨bs, hbs⟩ : ∃ bs, w1.heap.size = bs := ⟨_, rfl⟩
   rw [hbs] at hO1
   clear hO hB hg1 hsz1 hbs hs0
   go_loopg [10] n (fun kx s10 wr => ∃ k : Nat, s10 = .int .i64 k ∧ k ≤ n ∧ n - k ≤ kx ∧ Hid (OwnI .i64 3 wr bs (.slice (some ⟨g, 0, none⟩) n cp) (negK PP k)) ∧ Below s0 w wr)
   case atStart => exact ⟨0, rfl, by omega, by omega, hO1, hB1⟩
   case round =>
    clear hO1 hB1
    obtain ⟨k, rfl, hk, hkx, HO, hB⟩ := hrel
    by_cases hlt : k < n
    ·have hltz : (k : Int) < (n : Int) := by omega
     obtain ⟨g9, cp9, ev9, _, _, hcg, hfg, hset⟩ := HO.out.form (by rw [negK_len, HPL.out]; omega)
     rw [negK_len, HPL.out] at ev9 hcg hset
     cases ev9
     have c1 := hcg k hlt
     have f1 := hfg k
     rw [negK_at (by rw [HPL.out]; exact hlt)] at c1
     have hxb := HBD.out (PP.getD k 0) (mem_getD (by rw [HPL.out]; exact hlt))
     have hnx := negK_next (L := PP) (k := k) (by rw [HPL.out]; exact hlt)
     generalize PP.getD k 0 = x at *
     obtain ⟨x1, x2⟩ := hxb
     have HO2 : Hid (OwnI .i64 3 (wr.setCell ⟨g, k, none⟩ (.int .i64 (-x))) bs (.slice (some ⟨g, 0, none⟩) n cp) (negK PP (k + 1))) := Lib.hid (by rw [← hnx]; exact hset k (-x) hlt)
     have hB2 : Below s0 w (wr.setCell ⟨g, k, none⟩ (.int .i64 (-x))) := Below.setCell (p := ⟨g, k, none⟩) hB hg _
     clear hcg hfg hset hnx HO hB
     go_wp2_with fail
     go_roundg (n - (k + 1))
     case measure => omega
     case rel => exact ⟨k + 1, by go_num, by omega, by omega, HO2, hB2⟩
    ·have hkn : k = n := by omega
     have hltz : ¬ (k : Int) < (n : Int) := by omega
     have HO2 := HO.out
     rw [negK_all (by rw [HPL.out]; omega)] at HO2
     obtain ⟨A9, c9, ev9, hI9⟩ := HO2.ints
     have HI9 := Lib.hid hI9
     have HE9 := Lib.hid ev9
     clear hI9 HO2 HO ev9
     go_wp2_with fail
     go_ret2
     exact ⟨_, rfl, ⟨A9, c9, HE9.out, HI9.out⟩, by rw [HS0.out]; exact hB⟩
  ·have hpl : partsL T ws.sum ws = partsP T ws.sum ws := by unfold partsL; rw [if_neg hneg]
   rw [hpl, hE]
   refine (rsplitP_any T A c ws w hz hE (by omega)).mono ?_
   rintro e w' ⟨v, rfl, hO, hb⟩
   obtain ⟨A9, c9, ev9, hI9⟩ := hO.ints
   exact ⟨v, rfl, ⟨A9, c9, ev9, hI9⟩, hb⟩
 ·have hS := rcheck_any T A c ws w hz hmax
  have hB := Below.refl w.heap.size w
  have hV : wsV T ws = 0 := by unfold wsV; rw [if_neg hE]
  have hL : splitL T ws = [] := by unfold splitL; rw [if_neg hE]
  rw [hL]
  rw [hV] at hS
  have hE2 : (wsE T ws == 0) = false := by simp [hE]
  generalize wsE T ws = E at *
  generalize ws.length = n at *
  have HS := Lib.hid hS
  clear hS hV hL hz
  go_enter Try.func17, Try.ntmps17
  go_wp2_with (go_at_call 31; refine HS.out.mono ?_; rintro e w1 ⟨rfl, hb⟩; replace hB := below_more hB hb; clear hb)
  go_ret2
  exact ⟨_, rfl, SlR.nil, hB⟩
set_option maxRecDepth 20000 in
set_option maxHeartbeats 3200000 in
theorem alsplit_short (T : Int) (A : Option Addr) (c : Nat) (ws : List Int) (w : World) (hz : IntsAt .i64 w A ws) (hl : ws.length ≤ 1100) :
  Calls Try.prog 6 #[.int .i64 T, .slice A ws.length c] w fun e w' => e = .returned (.bool true) ∧ Below w.heap.size w w' := by
 have hs1 := fun A c w h => alSplit_any T A c ws w h (by omega)
 have hs2 := fun w h => rsplit_any T A c ws w h (by omega)
 have hl9 : (splitL T ws).length ≤ 9223372036854775807 := by
  unfold splitL; split
  ·rw [partsL_len]; omega
  ·simp
 have hM := fun A B c d w h1 h2 => rsame_any A B c d (splitL T ws) (splitL T ws) w h1 h2 hl9
 have e3 : decide (splitL T ws = splitL T ws) = true := by simp
 rw [e3] at hM
 obtain ⟨len, hlen⟩ : ∃ len, ws.length = len := ⟨_, rfl⟩
 rw [hlen] at hl hs1 hs2 ⊢
 have hEE : (wsE T ws == wsE T ws) = true := by simp
 generalize splitL T ws = L at *
 generalize wsE T ws = E at *
 have h3 : decide ((1100 : Int) < (len : Int)) = false := decide_eq_false (by omega)
 have HZ := Lib.hid hz
 have HL := Lib.hid hlen
 have HS1 := Lib.hid hs1
 have HS2 := Lib.hid hs2
 have HM := Lib.hid hM
 clear hz hlen hs1 hs2 hM e3 hl9
 have hB := Below.refl w.heap.size w
 obtain ⟨i0, hi, hz0, hz1, hz2⟩ := info_parts infoI_int
 go_enter Try.func6, Try.ntmps6
 go_wp2_with (first
  | (go_at_call 11; refine (alAwake_any _).mono ?_; rintro e w1 ⟨rfl, hb⟩; replace hB := below_more hB hb; clear hb)
  | (at_builtin; refine wpList_append_ints rfl (.tmp 16) (.tmp 17) 22 rfl .i64 w.heap.size 3 i0 8 Try.underlying22 hi hz0 hz1 hz2 (by omega) _ [] (by rfl) (OwnI.empty hB.size) A len c ws HL.out rfl ?_ ?_ ?_ ?_; (exact (HZ.out.up hB).up (below_alloc_new _)); (simp only [List.length_nil]; omega); (exact Nat.le_trans hB.size (by simp)); intro v2 w2 ho2 hb2; replace hB := (hB.alloc hB.size _).trans hb2; obtain ⟨A2, c2, hv2, hI2⟩ := ho2.out.ints; rw [List.nil_append] at hI2 hv2; rw [HL.out] at hv2; rw [hv2]; replace hI2 := Lib.hid hI2; clear hv2 hb2 ho2)
  | (go_at_call 16; refine (HS1.out _ _ _ hI2.out).mono ?_; rintro e w3 ⟨v3, rfl, ⟨A3, c3, rfl, hI3⟩, hb⟩; replace hB := below_more hB hb; clear hb; replace hI3 := Lib.hid hI3)
  | (go_at_call 17; refine (HS2.out _ (HZ.out.up hB)).mono ?_; rintro e w4 ⟨v4, rfl, ⟨A4, c4, rfl, hI4⟩, hb⟩; replace hI3 := Lib.hid (hI3.out.up hb); replace hB := below_more hB hb; clear hb; replace hI4 := Lib.hid hI4)
  | (go_at_call 14; refine (HM.out _ _ _ _ _ hI3.out hI4.out).mono ?_; rintro e w5 ⟨rfl, hb⟩; replace hB := below_more hB hb; clear hb))
 go_ret
 exact ⟨rfl, hB⟩
set_option maxRecDepth 20000 in
set_option maxHeartbeats 3200000 in
theorem alsplit_long (T : Int) (A : Option Addr) (len c : Nat) (w : World) (hl : 1100 < len) (hl2 : len ≤ 9223372036854775807) :
  Calls Try.prog 6 #[.int .i64 T, .slice A len c] w fun e w' => e = .returned (.bool true) ∧ Below w.heap.size w w' := by
 have hB := Below.refl w.heap.size w
 have h3 : (1100 : Int) < (len : Int) := by omega
 go_enter Try.func6, Try.ntmps6
 go_wp2_with (go_at_call 11; refine (alAwake_any _).mono ?_; rintro e w1 ⟨rfl, hb⟩; replace hB := below_more hB hb; clear hb)
 go_ret
 exact ⟨rfl, hB⟩
theorem law_alsplit (T : Int) (A : Option Addr) (len c : Nat) (ws : List Int) (w : World) (hlen : ws.length = len) (hmax : len ≤ 9223372036854775807) (hz : IntsAt .i64 w A ws) :
  Calls Try.prog 6 #[.int .i64 T, .slice A len c] w fun e w' => e = .returned (.bool true) ∧ Below w.heap.size w w' := by
 by_cases h : len ≤ 1100
 ·subst hlen; exact alsplit_short T A c ws w hz h
 ·exact alsplit_long T A len c w (by omega) hmax
open Go.ChangeShapes Go.WideShapes Go.ChangeAt Go.WideMaps Go.WideElems Go.RowKit
theorem open_islice {H : Type} {enc : TypeId × Value → H} {P : Program} {W : World} {b0 : Nat} {T E : TypeId} {k : IntKind} {v : Value} {d : DataW H} {p : List MemPlace} (hT : P.underlying T = some (.slice E)) (hE : P.underlying E = some (.int k)) (hc : P.cellsOf E = 1)
  (hval : Value.okWide P W .any b0 T v) (h : DataW.Trod enc P W 0 (fun _ => true) true T v d p) :
  ∃ A len cap zs, v = .slice A len cap ∧ zs.length = len ∧ len ≤ 9223372036854775807 ∧ IntsAt k W A zs ∧ ∀ x ∈ zs, (Lit.int k x).wf = true := by
 obtain ⟨a0, len, cap, rfl⟩ := okWide_slice hT hval
 obtain ⟨fuel, hf⟩ := h
 rcases open_ints hT hE hc hf with ⟨hcs, hx⟩ | ⟨a, len', cap', zs, hcs, _, hl, hm, hz, hx, hcell, hwz⟩
 ·simp [Value.cells] at hcs
  obtain ⟨rfl, rfl, rfl⟩ := hcs
  exact ⟨none, 0, 0, [], rfl, rfl, by omega, IntsAt.nil, by simp⟩
 ·simp [Value.cells] at hcs
  obtain ⟨rfl, rfl, rfl⟩ := hcs
  simp only [if_true] at hz
  unfold maxLen at hm
  have hle : (zs.take len).length = len := by rw [List.length_take, hz]; omega
  refine ⟨_, len, cap, zs.take len, rfl, hle, by omega, fun h0 => ?_, fun x hx => hwz x (List.mem_of_mem_take hx)⟩
  have hl0 : 0 < len := by omega
  obtain ⟨b, off, spot⟩ := a
  have hspot : spot = none := by simpa [Addr.add] using World.cell?_spot (hcell 0 (by omega))
  subst hspot
  have hlt : b < W.heap.size := by
   have h9 := hcell 0 (by omega)
   rcases Nat.lt_or_ge b W.heap.size with hlt | hge
   ·exact hlt
   ·unfold World.cell? at h9
    rw [show (Addr.add ⟨b, off, none⟩ 0).block = b from by rw [block_add], Array.getElem?_eq_none hge] at h9
    simp at h9
  refine ⟨b, off, rfl, hlt, fun i hi => ?_⟩
  rw [hle] at hi
  have h1 := hcell i (by omega)
  rw [add_plain] at h1
  rw [h1, List.getD_eq_getElem?_getD, List.getD_eq_getElem?_getD, List.getElem?_take, if_pos hi]
end Go.Proofs.Ytocojbkhdijjeaa
