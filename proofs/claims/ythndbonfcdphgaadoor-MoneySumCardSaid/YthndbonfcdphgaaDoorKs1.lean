/- Contracts and the law of MoneySum, part 1: what was proved of each, callees first. -/
import Derived.Test.YthndbonfcdphgaaDoorProg
import Derived.WalkKit
import Derived.WalkSpells
import Derived.Lib.Hide
import Derived.Deep.QuietTactic
import Derived.BigQuiet
import Derived.Deep.Draws
import Derived.Laws.Rows
import Derived.Laws.CopyOwn
import Derived.Deep.OwnRows
import Derived.Outline
import Derived.Laws.AppendOwnNone
import Derived.OwnWalk
import Derived.Handed
import Derived.ProofKit
import Derived.ChangeSlices
import Derived.OpenShut
import Derived.Carry
import Derived.Test.YthndbonfcdphgaaDoorK1
namespace Go.Proofs.YthndbonfcdphgaaDoor
open Go.RowKit
section
variable {k : IntKind} {t : TypeId} {w w' : World} {b o g B : Nat} {L : List Nat}
end
section
variable {k : IntKind} {t : TypeId} {w w' : World} {g B B' c : Nat} {A : Option Addr} {L : List Nat}
end
theorem below_alloc_new {w : World} (o : Obj) : Below w.heap.size w (w.alloc o) := (Below.refl _ _).alloc (Nat.le_refl _) _
open Go.RowKit
theorem rmvalid_any (n : Int) (w : World) : Calls Tryd.prog 14 #[.int .i64 n] w fun e w' => e = .returned (.bool (amtB n)) ∧ w = w' := by
 unfold amtB
 by_cases h1 : (-1000000000000 : Int) ≤ n
 ·by_cases h2 : n ≤ 1000000000000
  ·rw [decide_eq_true h1, decide_eq_true h2]
   go_enter Tryd.func14, Tryd.ntmps14
   go_wp2
   go_ret
   exact ⟨rfl, rfl⟩
  ·rw [decide_eq_true h1, decide_eq_false h2]
   have h3 : decide (n ≤ 1000000000000) = false := decide_eq_false h2
   clear h2
   go_enter Tryd.func14, Tryd.ntmps14
   go_wp2
   go_ret
   exact ⟨rfl, rfl⟩
 ·rw [decide_eq_false h1]
  have h3 : decide ((-1000000000000 : Int) ≤ n) = false := decide_eq_false h1
  clear h1
  go_enter Tryd.func14, Tryd.ntmps14
  go_wp2
  go_ret
  exact ⟨rfl, rfl⟩
theorem checked_any (n : Int) (w : World) : Calls Tryd.prog 35 #[.int .i64 n] w fun e w' => e = .returned (.tuple #[.int .i64 (amV n), .int .i64 (amE n)]) ∧ w = w' := by
 unfold amV amE
 cases h : amtB n
 all_goals
  have HV := fun w => rmvalid_any n w
  rw [h] at HV
  have H := Lib.hid HV
  clear HV
  go_enter Tryd.func35, Tryd.ntmps35
  go_wp2_with (go_at_call 14; refine (H.out _).mono ?_; rintro e w' ⟨rfl, rfl⟩)
  go_ret2
  exact ⟨rfl, rfl⟩
def IntsAt (k : IntKind) (w : World) (A : Option Addr) (zs : List Int) : Prop := 0 < zs.length → ∃ b off, A = some ⟨b, off, none⟩ ∧ b < w.heap.size ∧ ∀ i, i < zs.length → w.cell? ⟨b, off + i, none⟩ = some (.int k (zs.getD i 0))
def OwnI (k : IntKind) (e : TypeId) (w : World) (base : Nat) (v : Value) (L : List Int) : Prop := w.ownsRow base e 1 v L.length (L.map fun d => Value.int k d)
section
variable {k : IntKind} {e : TypeId} {w w' : World} {base B : Nat} {v : Value} {A : Option Addr} {L M zs : List Int}
theorem IntsAt.keep (h : IntsAt k w A zs) (hs : w.heap.size ≤ w'.heap.size) (hk : ∀ b j, b < w.heap.size → w'.cell? ⟨b, j, none⟩ = w.cell? ⟨b, j, none⟩) : IntsAt k w' A zs := fun h0 => by
 obtain ⟨b, off, e, hlt, hc⟩ := h h0
 exact ⟨b, off, e, Nat.lt_of_lt_of_le hlt hs, fun i hi => (hk b (off + i) hlt).trans (hc i hi)⟩
theorem IntsAt.up (h : IntsAt k w A zs) (hb : Below w.heap.size w w') : IntsAt k w' A zs := h.keep hb.size fun b j hB => hb.cell (p := ⟨b, j, none⟩) hB
theorem IntsAt.nil : IntsAt k w A [] := fun h => absurd h (by simp)
theorem OwnI.nil : OwnI k e w base (.slice none 0 0) [] := World.ownsRow_nil _ _ _ _
theorem OwnI.empty (hb : base ≤ w.heap.size) : OwnI k e (w.alloc (.cells #[] e)) base (.slice (some ⟨w.heap.size, 0, none⟩) 0 0) [] :=
 ⟨rfl, .inr ⟨w.heap.size, 0, #[], rfl, hb, heap_alloc_new _ _, Nat.le_refl _, Nat.zero_le _, rfl, rfl⟩⟩
theorem OwnI.ints (h : OwnI k e w base v L) : ∃ A c, v = .slice A L.length c ∧ IntsAt k w A L := by
 obtain ⟨h1, h2⟩ := h
 rcases h2 with ⟨rfl, h0⟩ | ⟨g, cap, cur, rfl, hbg, hg, hn, hcap, hsz, hcur⟩
 ·obtain rfl : L = [] := List.eq_nil_of_length_eq_zero h0
  exact ⟨none, 0, rfl, IntsAt.nil⟩
 ·refine ⟨_, cap, rfl, fun _ => ⟨g, 0, rfl, ?_, fun j hj => ?_⟩⟩
  ·rcases Nat.lt_or_ge g w.heap.size with hlt | hge
   ·exact hlt
   ·rw [Array.getElem?_eq_none hge] at hg; cases hg
  ·have h3 : cur.toList[j]? = some (Value.int k (L.getD j 0)) := by
    have : (cur.toList.take (L.length * 1))[j]? = some (Value.int k (L.getD j 0)) := by
     rw [hcur, List.getElem?_map, List.getElem?_eq_getElem hj, List.getD_eq_getElem?_getD, List.getElem?_eq_getElem hj]; rfl
    rw [List.getElem?_take] at this
    split at this
    ·exact this
    ·cases this
   simp only [World.cell?, hg, Nat.zero_add]
   simpa using h3
end
theorem wpList_append_int {P : Program} (w : World) {ops : Array Oper} {rest : List Oper} {o : Oper} {a : Act} {Q : Exit → Act → World → Prop} (hgd : o.guard = none) (s x : Operand) (t : TypeId)
  (ho : o.op = .call { callee := .builtin .append, args := #[s, x], argTypes := #[t, t] })
  (k : IntKind) (base : Nat) (e : TypeId) (i : TypeInfo) (bytes : Nat) (ht : P.underlying t = some (.slice e)) (hi : P.info? e = some i) (hz : i.zero = some (.int k 0))
  (hsize : i.size = 1) (hby : i.bytes = bytes) (hb8 : bytes ≤ 8)
  (v : Value) (L : List Int) (hs : a.eval s = v) (hown : OwnI k e w base v L) (X : Int) (c : Nat) (hx : a.eval x = .slice (some ⟨w.heap.size, 0, none⟩) 1 c)
  (hlen : L.length ≤ 100000000) (hbase : base ≤ w.heap.size)
  (h : ∀ v' w', Hid (OwnI k e w' base v' (L ++ [X])) → Below base w w' → wpList P ops Q rest (a.put o.dst v') w') : wpList P ops Q (o :: rest) a (w.alloc (.cells #[.int k X] e)) := by
 refine wpList_append_own (w.alloc (.cells #[.int k X] e)) hgd s x t ho base e i (.int k 0) 1 bytes ht hi hz hsize hby rfl (by decide) v L.length (L.map fun d => Value.int k d) hs (World.ownsRow.alloc hown _)
  ⟨w.heap.size, 0, none⟩ 1 c [.int k X] hx rfl ?_ ?_ ?_ ?_ ?_ ?_
 ·intro j u hj
  match j, hj with
  | 0, hj =>
   simp at hj; subst hj
   unfold World.cell? Addr.add
   rw [if_pos rfl]
   dsimp only
   rw [heap_alloc_new]
   rfl
 ·intro u hu; simp at hu; subst hu; rfl
 ·unfold maxLen; omega
 ·have : (L.length + 1) * bytes ≤ (L.length + 1) * 8 := Nat.mul_le_mul_left _ hb8
  omega
 ·simp; omega
 ·intro v' w' h1 h2 _
  refine h v' w' ?_ ?_
  ·show World.ownsRow _ _ _ _ _ _ _
   rw [List.length_append, List.map_append]
   exact h1
  ·refine ((Below.refl base w).alloc hbase _).grown h2 (by simp; omega) (fun j hj => ?_)
   exact (World.ownsRow.lt hown j hj).1
theorem run_append_nothing {P : Program} {w : World} (base : Nat) (t ty e : TypeId) (i : TypeInfo) (ht : P.underlying t = some (.slice e)) (hi : P.info? e = some i) {size : Nat}
  (v : Value) (n : Nat) (xs : List Value) (hown : w.ownsRow base e size v n xs) (c : Nat) : (Builtin.append_ #[t, t] ty #[v, .slice none 0 c]).run P w = .ok v w := by
 rcases hown.2 with ⟨rfl, rfl⟩ | ⟨g, cap, cur, rfl, _, _, hnc, _⟩
 ·simp [Builtin.append_, run_underlying ht, sizeOf, typeInfo, hi, Builtin.lenOf, Builtin.firstCells]
 ·simp [Builtin.append_, run_underlying ht, sizeOf, typeInfo, hi, Builtin.lenOf, Builtin.firstCells, hnc, storeCells]
theorem wpList_append_ints {P : Program} {w : World} {ops : Array Oper} {rest : List Oper} {o : Oper} {a : Act} {Q : Exit → Act → World → Prop} (hgd : o.guard = none) (s x : Operand) (t : TypeId)
  (ho : o.op = .call { callee := .builtin .append, args := #[s, x], argTypes := #[t, t] })
  (k : IntKind) (base : Nat) (e : TypeId) (i : TypeInfo) (bytes : Nat) (ht : P.underlying t = some (.slice e)) (hi : P.info? e = some i) (hz : i.zero = some (.int k 0))
  (hsize : i.size = 1) (hby : i.bytes = bytes) (hb8 : bytes ≤ 8)
  (v : Value) (L : List Int) (hs : a.eval s = v) (hown : OwnI k e w base v L) (A : Option Addr) (m c : Nat) (M : List Int) (hm : M.length = m) (hx : a.eval x = .slice A m c) (hR : IntsAt k w A M)
  (hlen : L.length + m ≤ 100000000) (hbase : base ≤ w.heap.size)
  (h : ∀ v' w', Hid (OwnI k e w' base v' (L ++ M)) → Below base w w' → wpList P ops Q rest (a.put o.dst v') w') : wpList P ops Q (o :: rest) a w := by
 subst hm
 have hb := Nat.mul_le_mul_left (L.length + M.length) hb8
 rcases A with _ | ad
 ·have h0 : M.length = 0 := by
   rcases Nat.eq_zero_or_pos M.length with h0 | h0
   ·exact h0
   ·obtain ⟨b, o', e1, _, _⟩ := hR h0; cases e1
  have hM : M = [] := List.eq_nil_of_length_eq_zero h0
  subst hM
  refine wpList_plain hgd fun K hK => ?_
  have hrun := run_append_nothing (P := P) (w := w) base t o.type e i ht hi v _ _ hown c
  unfold Oper.wp
  simp only [List.length_nil] at hx
  simp [execOp, ho, resolve, invoke, builtin, hs, hx, hrun, Result.andThen]
  exact hK _ _ (h v w (by rw [List.append_nil]; exact hown) (Below.refl _ _))
 ·refine wpList_append_own w hgd s x t ho base e i (.int k 0) 1 bytes ht hi hz hsize hby rfl (by decide) v L.length _ hs hown ad M.length c (M.map fun d => Value.int k d) hx (by simp) ?_ ?_ (by unfold maxLen; omega) (by omega) hbase ?_
  ·intro j u hj
   have hjl : j < M.length := by
    rcases Nat.lt_or_ge j M.length with h1 | h1
    ·exact h1
    ·rw [List.getElem?_eq_none (by simpa using h1)] at hj; cases hj
   obtain ⟨b, o', e1, _, hc⟩ := hR (by omega)
   injection e1 with e1
   subst e1
   have h2 := hc j hjl
   have h3 : u = .int k (M.getD j 0) := by
    rw [List.getElem?_map, List.getElem?_eq_getElem hjl] at hj
    simp at hj
    rw [← hj, List.getD_eq_getElem?_getD, List.getElem?_eq_getElem hjl]; rfl
   rw [h3, ← h2]
   unfold Addr.add
   split
   ·rename_i h0; subst h0; simp
   ·rfl
  ·intro u hu
   obtain ⟨d, _, rfl⟩ := List.mem_map.1 hu
   rfl
  ·intro v' w' h1 h2 _
   refine h v' w' ?_ ((Below.refl base w).grown h2 hbase (fun j hj => (World.ownsRow.lt hown j hj).1))
   show World.ownsRow _ _ _ _ _ _ _
   rw [List.length_append, List.map_append]
   exact h1
theorem infoI_int : (Tryd.prog.info? 3).map (fun i => (i.zero, i.size, i.bytes)) = some (some (.int .i64 0), 1, 8) := by kernel_rfl
open Go.RowKit
def sumE (zs : List Int) : Int := if zs.all amtB = true then amE zs.sum else 1
def sumV (zs : List Int) : Int := if zs.all amtB = true then amV zs.sum else 0
theorem take_sum (zs : List Int) (k : Nat) (h : k < zs.length) : (zs.take (k + 1)).sum = (zs.take k).sum + zs.getD k 0 := by
 rw [List.take_succ_eq_append_getElem h, List.sum_append, List.getD_eq_getElem?_getD, List.getElem?_eq_getElem h]
 simp
theorem take_all (zs : List Int) (k : Nat) (h : k < zs.length) : (zs.take (k + 1)).all amtB = ((zs.take k).all amtB && amtB (zs.getD k 0)) := by
 rw [List.take_succ_eq_append_getElem h, List.all_append, List.getD_eq_getElem?_getD, List.getElem?_eq_getElem h]
 simp
theorem all_no {zs : List Int} {k : Nat} (h : k < zs.length) (hk : amtB (zs.getD k 0) = false) : zs.all amtB = false := by
 rw [List.all_eq_false]
 refine ⟨zs[k], List.getElem_mem h, ?_⟩
 rw [List.getD_eq_getElem?_getD, List.getElem?_eq_getElem h] at hk
 simpa using hk
structure MS (zs : List Int) (k : Nat) (M R : Int) : Prop where
 ok : (zs.take k).all amtB = true
 sum : M * 1000000 + R = (zs.take k).sum
 m1 : -((k : Int) * 1000000) ≤ M
 m2 : M ≤ (k : Int) * 1000000
 r1 : -((k : Int) * 1000000) ≤ R
 r2 : R ≤ (k : Int) * 1000000
theorem MS.next {zs : List Int} {k : Nat} {M R x q r : Int} (h : MS zs k M R) (hk : k < zs.length) (hx : zs.getD k 0 = x) (hok : amtB x = true) (hq : x.tdiv 1000000 = q) (hr' : x.tmod 1000000 = r) : MS zs (k + 1) (M + q) (R + r) ∧ (-1000000 ≤ q ∧ q ≤ 1000000) ∧ (-1000000 ≤ r ∧ r ≤ 1000000) := by
 obtain ⟨a1, a2, a3, a4, a5, a6⟩ := h
 obtain ⟨x1, x2⟩ := amtB_is hok
 have e : 1000000 * x.tdiv 1000000 + x.tmod 1000000 = x := Int.mul_tdiv_add_tmod x 1000000
 have b1 : x.tmod 1000000 < 1000000 := Int.tmod_lt_of_pos _ (by omega)
 have b2 : -1000000 < x.tmod 1000000 := by have := Int.lt_tmod_of_pos x (show (0 : Int) < 1000000 by omega); omega
 rw [hq, hr'] at e
 rw [hr'] at b1 b2
 refine ⟨⟨?_, ?_, by omega, by omega, by omega, by omega⟩, ⟨by omega, by omega⟩, by omega, by omega⟩
 ·rw [take_all zs k hk, a1, hx, hok]; rfl
 ·rw [take_sum zs k hk, hx, ← a2]; omega
theorem sum_end {S M R q r : Int} (h : M * 1000000 + R = S) (hq : R.tdiv 1000000 = q) (hr' : R.tmod 1000000 = r) : (M + q) * 1000000 + r = S ∧ -1000000 < r ∧ r < 1000000 := by
 have e : 1000000 * R.tdiv 1000000 + R.tmod 1000000 = R := Int.mul_tdiv_add_tmod R 1000000
 have b1 : R.tmod 1000000 < 1000000 := Int.tmod_lt_of_pos _ (by omega)
 have b2 : -1000000 < R.tmod 1000000 := by have := Int.lt_tmod_of_pos R (show (0 : Int) < 1000000 by omega); omega
 rw [hq, hr'] at e
 rw [hr'] at b1 b2
 omega
set_option maxRecDepth 20000 in
set_option maxHeartbeats 3200000 in
theorem msum_any (A : Option Addr) (c : Nat) (zs : List Int) (w : World) (hz : IntsAt .i64 w A zs) (hl : zs.length ≤ 1000) :
  Calls Tryd.prog 17 #[.slice A zs.length c] w fun e w' => e = .returned (.tuple #[.int .i64 (sumV zs), .int .i64 (sumE zs)]) ∧ Below w.heap.size w w' := by
 obtain ⟨len, hlen⟩ : ∃ len, zs.length = len := ⟨_, rfl⟩
 have HZ := Lib.hid hz
 clear hz
 rw [hlen] at hl ⊢
 have HL := Lib.hid hlen
 clear hlen
 go_enter Tryd.func17, Tryd.ntmps17
 go_wp2_with fail
 go_loop [4, 5, 10] (fun m r i => ∃ (k : Nat) (M R : Int), k ≤ len ∧ m = .int .i64 M ∧ r = .int .i64 R ∧ i = .int .i64 k ∧ MS zs k M R) (fun _ _ i => len - (intOf i).toNat)
 case atStart => exact ⟨0, 0, 0, by omega, rfl, rfl, rfl, by simp, by simp, by simp, by simp, by simp, by simp⟩
 case round =>
  obtain ⟨k, M, R, hk, rfl, rfl, rfl, hms⟩ := hrel
  have b1 : -1000000000 ≤ M := by have := hms.m1; omega
  have b2 : M ≤ 1000000000 := by have := hms.m2; omega
  have b3 : -1000000000 ≤ R := by have := hms.r1; omega
  have b4 : R ≤ 1000000000 := by have := hms.r2; omega
  have HM := Lib.hid hms
  clear hms
  by_cases hlt : k < len
  ·obtain ⟨b, off, rfl, hbw, hcs⟩ := HZ.out (by rw [HL.out]; omega)
   have hc := hcs k (by rw [HL.out]; exact hlt)
   have hV := fun w => mvalid_any (zs.getD k 0) w
   obtain ⟨x, hx⟩ : ∃ x, zs.getD k 0 = x := ⟨_, rfl⟩
   rw [hx] at hc hV
   have HX := Lib.hid hx
   clear hx hcs
   cases hok : amtB x
   ·rw [hok] at hV
    have HV := Lib.hid hV
    have HE : Hid (zs.all amtB = false) := Lib.hid (all_no (by rw [HL.out]; exact hlt) (by rw [HX.out]; exact hok))
    clear hV hok
    go_wp2_with (go_at_call 13; refine (HV.out _).mono ?_; rintro e w' ⟨rfl, rfl⟩)
    go_ret2
    exact ⟨by unfold sumV sumE; rw [HE.out]; rfl, Below.refl _ _⟩
   ·rw [hok] at hV
    have HV := Lib.hid hV
    obtain ⟨q, hq⟩ : ∃ q, x.tdiv 1000000 = q := ⟨_, rfl⟩
    obtain ⟨r, hr'⟩ : ∃ r, x.tmod 1000000 = r := ⟨_, rfl⟩
    obtain ⟨hn, ⟨q1, q2⟩, r1, r2⟩ := HM.out.next (by rw [HL.out]; exact hlt) HX.out hok hq hr'
    have hdv : IntKind.i64.wrap (x.tdiv 1000000) = q := by rw [hq, IntKind.wrap_i64]; omega
    have HN := Lib.hid hn
    clear hV hok hn hq
    go_wp2_with (go_at_call 13; refine (HV.out _).mono ?_; rintro e w' ⟨rfl, rfl⟩)
    go_round
    case rel => exact ⟨k + 1, M + q, R + r, by omega, rfl, rfl, by go_num, HN.out⟩
    case measure => simp [intOf]; omega
  ·obtain rfl : k = len := by omega
   obtain ⟨q, hq⟩ : ∃ q, R.tdiv 1000000 = q := ⟨_, rfl⟩
   obtain ⟨r, hr'⟩ : ∃ r, R.tmod 1000000 = r := ⟨_, rfl⟩
   have hall : zs.all amtB = true := by have := HM.out.ok; rwa [List.take_of_length_le (by rw [HL.out]; exact Nat.le_refl _)] at this
   have hsum : M * 1000000 + R = zs.sum := by have := HM.out.sum; rwa [List.take_of_length_le (by rw [HL.out]; exact Nat.le_refl _)] at this
   obtain ⟨he, r1, r2⟩ := sum_end hsum hq hr'
   have q1 : -1000000000 ≤ q := by omega
   have q2 : q ≤ 1000000000 := by omega
   have hdv : IntKind.i64.wrap (R.tdiv 1000000) = q := by rw [hq, IntKind.wrap_i64]; omega
   have hA := fun w => mabs_any (M + q) w (by omega) (by omega)
   obtain ⟨z, hz⟩ : ∃ z, ((M + q).natAbs : Int) = z := ⟨_, rfl⟩
   obtain ⟨S, hS⟩ : ∃ S, zs.sum = S := ⟨_, rfl⟩
   rw [hz] at hA
   rw [hS] at he
   have hM := fun w => amount_any S w
   have eV : sumV zs = amV S := by unfold sumV; rw [if_pos hall, hS]
   have eE : sumE zs = amE S := by unfold sumE; rw [if_pos hall, hS]
   have hkk : decide ((k : Int) < (k : Int)) = false := by simp
   have HA := Lib.hid hA
   by_cases hf : 1000000 < z
   ·have hno : amtB S = false := amtB_no (by omega)
    have fV : sumV zs = 0 := by rw [eV]; unfold amV; rw [hno]; rfl
    have fE : sumE zs = 2 := by rw [eE]; unfold amE; rw [hno]; rfl
    have HFV := Lib.hid fV
    have HFE := Lib.hid fE
    clear hA hM eV eE fV fE hno he hS hz hsum hq hall hk hlt
    go_wp2_with (go_at_call 31; refine (HA.out _).mono ?_; rintro e w' ⟨rfl, rfl⟩)
    go_ret2
    exact ⟨by rw [HFV.out, HFE.out]; rfl, Below.refl _ _⟩
   ·have hf' : decide (1000000 < z) = false := decide_eq_false hf
    have HFV := Lib.hid eV
    have HFE := Lib.hid eE
    obtain ⟨N, hN⟩ : ∃ N, M + q = N := ⟨_, rfl⟩
    rw [hN] at he HA hz
    have n1 : -1000000 ≤ N := by omega
    have n2 : N ≤ 1000000 := by omega
    have HM2 := Lib.hid hM
    clear hA hM eV eE hS hz hsum hq hall hk hlt hf
    go_wp2_with (first | (go_at_call 31; refine (HA.out _).mono ?_; rintro e w' ⟨rfl, rfl⟩) | (go_at_call 32; refine (HM2.out _).mono ?_; rintro e w' ⟨rfl, rfl⟩))
    go_ret2
    exact ⟨by rw [HFV.out, HFE.out]; rfl, Below.refl _ _⟩
structure RS (zs : List Int) (k : Nat) (S : Int) : Prop where
 ok : (zs.take k).all amtB = true
 sum : S = (zs.take k).sum
 m1 : -((k : Int) * 1000000000000) ≤ S
 m2 : S ≤ (k : Int) * 1000000000000
theorem RS.next {zs : List Int} {k : Nat} {S x : Int} (h : RS zs k S) (hk : k < zs.length) (hx : zs.getD k 0 = x) (hok : amtB x = true) : RS zs (k + 1) (S + x) := by
 obtain ⟨a1, a2, a3, a4⟩ := h
 obtain ⟨x1, x2⟩ := amtB_is hok
 refine ⟨?_, ?_, by omega, by omega⟩
 ·rw [take_all zs k hk, a1, hx, hok]; rfl
 ·rw [take_sum zs k hk, hx, ← a2]
set_option maxRecDepth 20000 in
set_option maxHeartbeats 3200000 in
theorem rmsum_any (A : Option Addr) (c : Nat) (zs : List Int) (w : World) (hz : IntsAt .i64 w A zs) (hl : zs.length ≤ 1000) :
  Calls Tryd.prog 33 #[.slice A zs.length c] w fun e w' => e = .returned (.tuple #[.int .i64 (sumV zs), .int .i64 (sumE zs)]) ∧ Below w.heap.size w w' := by
 obtain ⟨len, hlen⟩ : ∃ len, zs.length = len := ⟨_, rfl⟩
 have HZ := Lib.hid hz
 clear hz
 rw [hlen] at hl ⊢
 have HL := Lib.hid hlen
 clear hlen
 go_enter Tryd.func33, Tryd.ntmps33
 go_wp2_with fail
 go_loop [4, 5] (fun s i => ∃ (k : Nat) (S : Int), k ≤ len ∧ s = .int .i64 S ∧ i = .int .i64 k ∧ RS zs k S) (fun _ i => len - (intOf i).toNat)
 case atStart => exact ⟨0, 0, by omega, rfl, rfl, by simp, by simp, by simp, by simp⟩
 case round =>
  obtain ⟨k, S, hk, rfl, rfl, hms⟩ := hrel
  have b1 : -1000000000000000 ≤ S := by have := hms.m1; omega
  have b2 : S ≤ 1000000000000000 := by have := hms.m2; omega
  have HM := Lib.hid hms
  clear hms
  by_cases hlt : k < len
  ·obtain ⟨b, off, rfl, hbw, hcs⟩ := HZ.out (by rw [HL.out]; omega)
   have hc := hcs k (by rw [HL.out]; exact hlt)
   have hV := fun w => rmvalid_any (zs.getD k 0) w
   obtain ⟨x, hx⟩ : ∃ x, zs.getD k 0 = x := ⟨_, rfl⟩
   rw [hx] at hc hV
   have HX := Lib.hid hx
   clear hx hcs
   cases hok : amtB x
   ·rw [hok] at hV
    have HV := Lib.hid hV
    have HE : Hid (zs.all amtB = false) := Lib.hid (all_no (by rw [HL.out]; exact hlt) (by rw [HX.out]; exact hok))
    clear hV hok
    go_wp2_with (go_at_call 14; refine (HV.out _).mono ?_; rintro e w' ⟨rfl, rfl⟩)
    go_ret2
    exact ⟨by unfold sumV sumE; rw [HE.out]; rfl, Below.refl _ _⟩
   ·rw [hok] at hV
    have HV := Lib.hid hV
    have HN := Lib.hid (HM.out.next (by rw [HL.out]; exact hlt) HX.out hok)
    obtain ⟨x1, x2⟩ := amtB_is hok
    clear hV hok
    go_wp2_with (go_at_call 14; refine (HV.out _).mono ?_; rintro e w' ⟨rfl, rfl⟩)
    go_round
    case rel => exact ⟨k + 1, S + x, by omega, rfl, by go_num, HN.out⟩
    case measure => simp [intOf]; omega
  ·obtain rfl : k = len := by omega
   have hall : zs.all amtB = true := by have := HM.out.ok; rwa [List.take_of_length_le (by rw [HL.out]; exact Nat.le_refl _)] at this
   have hsum : S = zs.sum := by have := HM.out.sum; rwa [List.take_of_length_le (by rw [HL.out]; exact Nat.le_refl _)] at this
   have hM := fun w => checked_any S w
   have eV : sumV zs = amV S := by unfold sumV; rw [if_pos hall, hsum]
   have eE : sumE zs = amE S := by unfold sumE; rw [if_pos hall, hsum]
   have hkk : decide ((k : Int) < (k : Int)) = false := by simp
   have HFV := Lib.hid eV
   have HFE := Lib.hid eE
   have HM2 := Lib.hid hM
   clear hM eV eE hsum hall hk hlt
   go_wp2_with (go_at_call 35; refine (HM2.out _).mono ?_; rintro e w' ⟨rfl, rfl⟩)
   go_ret2
   exact ⟨by rw [HFV.out, HFE.out]; rfl, Below.refl _ _⟩
theorem sum_rev (zs : List Int) : sumE zs.reverse = sumE zs ∧ sumV zs.reverse = sumV zs := by
 unfold sumE sumV
 have e : zs.reverse.sum = zs.sum := by
  induction zs with
  | nil => rfl
  | cons a t ih => rw [List.reverse_cons, List.sum_append, ih, List.sum_cons, List.sum_cons, List.sum_nil]; omega
 rw [List.all_reverse, e]
 exact ⟨rfl, rfl⟩
set_option maxRecDepth 20000 in
set_option maxHeartbeats 3200000 in
theorem total_any (A : Option Addr) (c : Nat) (zs : List Int) (w : World) (hz : IntsAt .i64 w A zs) (hl : zs.length ≤ 1000) :
  Calls Tryd.prog 18 #[.slice A zs.length c] w fun e w' => e = .returned (.tuple #[.int .i64 (sumV zs), .int .i64 (sumE zs)]) ∧ Below w.heap.size w w' := by
 have hS := rmsum_any A c zs w hz hl
 obtain ⟨len, hlen⟩ : ∃ len, zs.length = len := ⟨_, rfl⟩
 have HZ := Lib.hid hz
 clear hz
 rw [hlen] at hl hS ⊢
 have HL := Lib.hid hlen
 have HS := Lib.hid hS
 clear hlen hS
 go_enter Tryd.func18, Tryd.ntmps18
 go_wp2_with fail
 go_loop [4] (fun i => ∃ (k : Nat), k ≤ len ∧ i = .int .i64 k ∧ (zs.take k).all amtB = true) (fun i => len - (intOf i).toNat)
 case atStart => exact ⟨0, by omega, rfl, by simp⟩
 case round =>
  obtain ⟨k, hk, rfl, hms⟩ := hrel
  have HM := Lib.hid hms
  clear hms
  by_cases hlt : k < len
  ·obtain ⟨b, off, rfl, hbw, hcs⟩ := HZ.out (by rw [HL.out]; omega)
   have hc := hcs k (by rw [HL.out]; exact hlt)
   have hV := fun w => rmvalid_any (zs.getD k 0) w
   obtain ⟨x, hx⟩ : ∃ x, zs.getD k 0 = x := ⟨_, rfl⟩
   rw [hx] at hc hV
   have HX := Lib.hid hx
   clear hx hcs
   cases hok : amtB x
   ·rw [hok] at hV
    have HV := Lib.hid hV
    have HE : Hid (zs.all amtB = false) := Lib.hid (all_no (by rw [HL.out]; exact hlt) (by rw [HX.out]; exact hok))
    clear hV hok
    go_wp2_with (go_at_call 14; refine (HV.out _).mono ?_; rintro e w' ⟨rfl, rfl⟩)
    go_ret2
    exact ⟨by unfold sumV sumE; rw [HE.out]; rfl, Below.refl _ _⟩
   ·rw [hok] at hV
    have HV := Lib.hid hV
    have HN : Hid ((zs.take (k + 1)).all amtB = true) := Lib.hid (by rw [take_all zs k (by rw [HL.out]; exact hlt), HM.out, HX.out, hok]; rfl)
    clear hV hok
    go_wp2_with (go_at_call 14; refine (HV.out _).mono ?_; rintro e w' ⟨rfl, rfl⟩)
    go_round
    case rel => exact ⟨k + 1, by omega, by go_num, HN.out⟩
    case measure => simp [intOf]; omega
  ·obtain rfl : k = len := by omega
   have hkk : decide ((k : Int) < (k : Int)) = false := by simp
   have hB := Below.refl w.heap.size w
   clear hk hlt
   go_wp2_with (go_at_call 33; refine (HS.out).mono ?_; rintro e w' ⟨rfl, hb⟩; replace hB := below_more hB hb; clear hb)
   go_ret2
   exact ⟨rfl, hB⟩
set_option maxRecDepth 20000 in
set_option maxHeartbeats 3200000 in
theorem msum_long (A : Option Addr) (len c : Nat) (w : World) (ht : DTab w.heap.size w) (hl : 300 < len) (hl2 : len ≤ 9223372036854775807) :
  Calls Tryd.prog 4 #[.slice A len c] w fun e w' => e = .returned (.bool true) ∧ Below w.heap.size w w' := by
 have HT := Lib.hid ht
 clear ht
 have hB := Below.refl w.heap.size w
 have h3 : (300 : Int) < (len : Int) := by omega
 go_enter Tryd.func4, Tryd.ntmps4
 go_wp2_with (go_at_call 12; refine (mawake_any _ HT.out).mono ?_; rintro e w' ⟨rfl, hb⟩; replace hB := below_more hB hb; clear hb)
 go_ret
 exact ⟨rfl, hB⟩
set_option maxRecDepth 20000 in
set_option maxHeartbeats 3200000 in
theorem msum_short (A : Option Addr) (c : Nat) (zs : List Int) (w : World) (ht : DTab w.heap.size w) (hz : IntsAt .i64 w A zs) (hl : zs.length ≤ 300) :
  Calls Tryd.prog 4 #[.slice A zs.length c] w fun e w' => e = .returned (.bool true) ∧ Below w.heap.size w w' := by
 have hs1 := fun A c w (h : IntsAt .i64 w A zs) => msum_any A c zs w h (by omega)
 have hs2 := fun A c w (h : IntsAt .i64 w A zs.reverse) => msum_any A c zs.reverse w h (by simp; omega)
 have hs3 := fun w h => total_any A c zs w h (by omega)
 rw [(sum_rev zs).1, (sum_rev zs).2, List.length_reverse] at hs2
 obtain ⟨len, hlen⟩ : ∃ len, zs.length = len := ⟨_, rfl⟩
 rw [hlen] at hl hs1 hs2 hs3 ⊢
 generalize sumV zs = V at *
 generalize sumE zs = E at *
 have h3 : decide ((300 : Int) < (len : Int)) = false := decide_eq_false (by omega)
 have HT := Lib.hid ht
 have HZ := Lib.hid hz
 have HL := Lib.hid hlen
 have HS1 := Lib.hid hs1
 have HS2 := Lib.hid hs2
 have HS3 := Lib.hid hs3
 clear ht hz hlen hs1 hs2 hs3
 have hB := Below.refl w.heap.size w
 obtain ⟨i0, hi, hz0, hz1, hz2⟩ := info_parts infoI_int
 go_enter Tryd.func4, Tryd.ntmps4
 go_wp2_with (first | (go_at_call 12; refine (mawake_any _ HT.out).mono ?_; rintro e w1 ⟨rfl, hb⟩; replace hB := below_more hB hb; clear hb) | (at_builtin; refine wpList_append_ints rfl (.tmp 17) (.tmp 18) 28 rfl .i64 w.heap.size 3 i0 8 Tryd.underlying28 hi hz0 hz1 hz2 (by omega) _ [] (by rfl) (OwnI.empty hB.size) A len c zs HL.out rfl ?_ ?_ ?_ ?_; (exact (HZ.out.up hB).up (below_alloc_new _)); (simp only [List.length_nil]; omega); (exact Nat.le_trans hB.size (by simp)); intro v2 w2 ho2 hb2; replace hB := (hB.alloc hB.size _).trans hb2; obtain ⟨A2, c2, hv2, hI2⟩ := ho2.out.ints; rw [List.nil_append] at hI2 hv2; rw [HL.out] at hv2; rw [hv2]; replace hI2 := Lib.hid hI2; clear hv2 hb2 ho2) | (go_at_call 17; refine (HS1.out _ _ _ hI2.out).mono ?_; rintro e w3 ⟨rfl, hb⟩; replace hB := below_more hB hb; clear hb))
 replace hI2 := hI2
 clear hI2
 have hsz := hB.size
 have hd0 : (zs.drop len).reverse = [] := by rw [← HL.out]; simp
 have hO : Hid (OwnI .i64 3 w3 w.heap.size (.slice none 0 0) (zs.drop len).reverse) := Lib.hid (by rw [hd0]; exact OwnI.nil)
 clear hd0
 go_loopw [5, 6] (fun o i wr => ∃ (n : Nat) (j : Int), n ≤ len ∧ i = .int .i64 j ∧ j = (n : Int) - 1 ∧ Hid (OwnI .i64 3 wr w.heap.size o (zs.drop n).reverse) ∧ Below w.heap.size w wr) (fun _ i _ => (intOf i + 1).toNat)
 case atStart => exact ⟨len, _, Nat.le_refl _, rfl, rfl, hO, hB⟩
 case round =>
  clear hO hB hsz
  obtain ⟨n, j, hn, rfl, hj, ho, hB⟩ := hrel
  have hsz := hB.size
  by_cases hlt : 0 ≤ j
  ·obtain ⟨m, rfl⟩ : ∃ m : Nat, j = (m : Int) := ⟨j.toNat, by omega⟩
   obtain rfl : n = m + 1 := by omega
   obtain ⟨b, off, rfl, hbw, hcs⟩ := HZ.out (by rw [HL.out]; omega)
   have hc := hcs m (by rw [HL.out]; omega)
   replace hc := (hB.cell (p := ⟨b, off + m, none⟩) hbw).trans hc
   have hD : (zs.drop m).reverse = (zs.drop (m + 1)).reverse ++ [zs.getD m 0] := by
    have h : m < zs.length := by rw [HL.out]; omega
    rw [List.drop_eq_getElem_cons h, List.reverse_cons, List.getD_eq_getElem?_getD, List.getElem?_eq_getElem h]; rfl
   have hlo : ((zs.drop (m + 1)).reverse).length ≤ 100000000 := by rw [List.length_reverse, List.length_drop, HL.out]; omega
   have HLO := Lib.hid hlo
   generalize (zs.drop (m + 1)).reverse = pre at *
   generalize zs.getD m 0 = x at *
   have HD := Lib.hid hD
   clear hD hlo hcs hj
   go_wp2_with (at_builtin; refine wpList_append_int wr rfl (.tmp 30) (.tmp 35) 28 rfl .i64 w.heap.size 3 i0 8 Tryd.underlying28 hi hz0 hz1 hz2 (by omega) u5 _ (by rfl) ho.out x 1 rfl HLO.out hsz ?_; intro v2 w2 ho2 hb2)
   go_roundw
   case rel => exact ⟨m, _, by omega, rfl, rfl, Lib.hid (by rw [HD.out]; exact ho2.out), hB.trans hb2⟩
   case measure => simp [intOf]
  ·obtain rfl : n = 0 := by omega
   obtain rfl : j = -1 := by omega
   obtain ⟨A3, c3, hv3, hI3⟩ := ho.out.ints
   rw [List.drop_zero] at hI3 hv3
   rw [List.length_reverse, HL.out] at hv3
   subst hv3
   have HI3 := Lib.hid hI3
   clear hI3 ho hj hlt
   go_wp2_with (first | (go_at_call 17; refine (HS2.out _ _ _ HI3.out).mono ?_; rintro e w4 ⟨rfl, hb⟩; replace hB := below_more hB hb; clear hb) | (go_at_call 18; refine (HS3.out _ (HZ.out.up hB)).mono ?_; rintro e w4 ⟨rfl, hb⟩; replace hB := below_more hB hb; clear hb))
   go_ret
   exact ⟨rfl, hB⟩
theorem law_msum (A : Option Addr) (len c : Nat) (zs : List Int) (w : World) (ht : DTab w.heap.size w) (hlen : zs.length = len) (hmax : len ≤ 9223372036854775807) (hz : IntsAt .i64 w A zs) :
  Calls Tryd.prog 4 #[.slice A len c] w fun e w' => e = .returned (.bool true) ∧ Below w.heap.size w w' := by
 by_cases h : len ≤ 300
 ·subst hlen; exact msum_short A c zs w ht hz h
 ·exact msum_long A len c w ht (by omega) hmax
open Go.ChangeShapes Go.WideShapes Go.ChangeAt Go.WideMaps Go.WideElems Go.RowKit
theorem open_islice {H : Type} {enc : TypeId × Value → H} {P : Program} {W : World} {b0 : Nat} {T E : TypeId} {k : IntKind} {v : Value} {d : DataW H} {p : List MemPlace} (hT : P.underlying T = some (.slice E)) (hE : P.underlying E = some (.int k)) (hc : P.cellsOf E = 1)
  (hval : Value.okWide P W .any b0 T v) (h : DataW.Trod enc P W 0 (fun _ => true) true T v d p) :
  ∃ A len cap zs, v = .slice A len cap ∧ zs.length = len ∧ len ≤ 9223372036854775807 ∧ IntsAt k W A zs ∧ ∀ x ∈ zs, (Lit.int k x).wf = true := by
 obtain ⟨a0, len, cap, rfl⟩ := okWide_slice hT hval
 obtain ⟨fuel, hf⟩ := h
 rcases open_ints hT hE hc hf with ⟨hcs, hx⟩ | ⟨a, len', cap', zs, hcs, _, hl, hm, hz, hx, hcell, hwz⟩
 ·simp [Value.cells] at hcs
  obtain ⟨rfl, rfl, rfl⟩ := hcs
  exact ⟨none, 0, 0, [], rfl, rfl, by omega, IntsAt.nil, by simp⟩
 ·simp [Value.cells] at hcs
  obtain ⟨rfl, rfl, rfl⟩ := hcs
  simp only [if_true] at hz
  unfold maxLen at hm
  have hle : (zs.take len).length = len := by rw [List.length_take, hz]; omega
  refine ⟨_, len, cap, zs.take len, rfl, hle, by omega, fun h0 => ?_, fun x hx => hwz x (List.mem_of_mem_take hx)⟩
  have hl0 : 0 < len := by omega
  obtain ⟨b, off, spot⟩ := a
  have hspot : spot = none := by simpa [Addr.add] using World.cell?_spot (hcell 0 (by omega))
  subst hspot
  have hlt : b < W.heap.size := by
   have h9 := hcell 0 (by omega)
   rcases Nat.lt_or_ge b W.heap.size with hlt | hge
   ·exact hlt
   ·unfold World.cell? at h9
    rw [show (Addr.add ⟨b, off, none⟩ 0).block = b from by rw [block_add], Array.getElem?_eq_none hge] at h9
    simp at h9
  refine ⟨b, off, rfl, hlt, fun i hi => ?_⟩
  rw [hle] at hi
  have h1 := hcell i (by omega)
  rw [add_plain] at h1
  rw [h1, List.getD_eq_getElem?_getD, List.getD_eq_getElem?_getD, List.getElem?_take, if_pos hi]
end Go.Proofs.YthndbonfcdphgaaDoor
