/- Contracts and the law of ChartAdds, part 1: what was proved of each, callees first. -/
import Derived.Test.YtlhdnmpklaohkaaProg
import Derived.WalkKit
import Derived.WalkSpells
import Derived.Lib.Hide
import Derived.Deep.QuietTactic
import Derived.BigQuiet
import Derived.Deep.Draws
import Derived.Laws.Rows
import Derived.Laws.CopyOwn
import Derived.Deep.OwnRows
import Derived.Outline
import Derived.Maps.AppendAt
import Derived.Laws.StructEq
import Derived.Deep.LoopGhost
import Derived.Deep.CutRange
import Derived.Deep.Slices
import Derived.Deep.Fields
import Derived.Test.YtlhdnmpklaohkaaHK1
namespace Go.Proofs.Ytlhdnmpklaohkaa
open Go.RowKit
def Blk (k : IntKind) (t : TypeId) (w : World) (g : Nat) (L : List Nat) : Prop := w.heap[g]? = some (.cells (L.map fun (d : Nat) => Value.int k (d : Int)).toArray t (0, 0))
section
variable {k : IntKind} {t : TypeId} {w w' : World} {b o g B : Nat} {L : List Nat}
end
section
variable {k : IntKind} {t : TypeId} {w w' : World} {g B B' c : Nat} {A : Option Addr} {L : List Nat}
end
theorem wpList_make_zeros {P : Program} (w : World) {ops : Array Oper} {rest : List Oper} {o : Oper} {a : Act} {Q : Exit → Act → World → Prop}
  (hg : o.guard = none) (l c : Operand) (t : TypeId) (hop : o.op = Op.makeSlice t l c)
  (e : TypeId) (k : IntKind) (i : TypeInfo) (bytes : Nat) (ht : P.underlying t = some (.slice e)) (hi : P.info? e = some i) (hz : i.zero = some (.int k 0)) (hsize : i.size = 1) (hbt : i.bytes = bytes)
  (kl kc : IntKind) (N C : Int) (n : Nat) (hl : a.eval l = .int kl N) (hc : a.eval c = .int kc C) (hN : N = (n : Int)) (hC : C = (n : Int)) (hb8 : bytes ≤ 8) (hn : n ≤ 100000000)
  (hK : ∀ w', Hid (Blk k e w' w.heap.size (List.replicate n 0)) → Below w.heap.size w w' → w.heap.size + 1 = w'.heap.size → wpList P ops Q rest (a.put o.dst (.slice (some ⟨w.heap.size, 0, none⟩) n n)) w') :
  wpList P ops Q (o :: rest) a w := by
 subst hN
 subst hC
 refine wpList_make_row w hg l c t hop e i (.int k 0) ht hi hz hsize rfl kl kc n hl hc ?_ (by omega) ?_
 ·have : i.bytes * n ≤ 8 * n := Nat.mul_le_mul_right _ (by omega)
  omega
 refine hK _ ?_ (below_alloc_new _) (by simp)
 show _ = _
 rw [heap_alloc_new]
 have : madeCells #[Value.int k 0] n = ((List.replicate n 0).map fun (d : Nat) => Value.int k (d : Int)).toArray := by
  apply Array.ext
  ·simp [madeCells]
  ·intro j h1 h2
   simp [madeCells, Nat.mod_one]
 rw [this]
theorem dc_drew {B : Nat} {a w : World} (h : Below B a w) : Below B a w.drew := ⟨h.os, h.tape, h.output, h.size, h.block⟩
open Go.RowKit
structure IB (w : World) (b : Nat) (L : List Int) : Prop where
 blk : ∃ t : TypeId, w.heap[b]? = some (.cells (L.map fun (x : Int) => Value.int .i64 x).toArray t (0, 0))
section
variable {w w' : World} {b : Nat} {L : List Int}
theorem IB.lt (h : IB w b L) : b < w.heap.size := by
 obtain ⟨t, h⟩ := h.blk
 rcases Nat.lt_or_ge b w.heap.size with hlt | hge
 ·exact hlt
 ·rw [Array.getElem?_eq_none hge] at h; cases h
theorem IB.cell (h : IB w b L) (i : Nat) (hi : i < L.length) : w.cell? ⟨b, i, none⟩ = some (.int .i64 (L.getD i 0)) := by
 obtain ⟨t, h⟩ := h.blk
 simp [World.cell?, h, hi]
theorem IB.frozen (h : IB w b L) (i : Nat) : w.frozen? ⟨b, i, none⟩ = false := by
 obtain ⟨t, h⟩ := h.blk
 simp [World.frozen?, h]
theorem IB.set (h : IB w b L) (i : Nat) (x : Int) : IB (w.setCell ⟨b, i, none⟩ (.int .i64 x)) b (L.set i x) := by
 obtain ⟨t, h⟩ := h.blk
 exact ⟨t, by simp [World.setCell, Array.getElem?_modify, h, List.map_set]⟩
theorem IB.up (h : IB w b L) {B : Nat} (hb : Below B w w') (hlt : b < B) : IB w' b L := by
 obtain ⟨t, h⟩ := h.blk
 exact ⟨t, (hb.block b hlt).trans h⟩
theorem IB.more (h : IB w b L) (hb : Below w.heap.size w w') : IB w' b L := h.up hb h.lt
theorem IB.drew (h : IB w b L) : IB w.drew b L := ⟨h.blk⟩
theorem IB.alloc (h : IB w b L) (o : Obj) : IB (w.alloc o) b L := h.more (below_alloc_new o)
theorem IB.zeros {t : TypeId} {n : Nat} (h : Blk .i64 t w b (List.replicate n 0)) : IB w b (List.replicate n (0 : Int)) := by
 refine ⟨t, ?_⟩
 unfold Blk at h
 rw [h]
 simp
end
instance : DecidableEq Bal := fun a b => decidable_of_iff (a.acct = b.acct ∧ a.amt = b.amt) (by cases a; cases b; simp)
abbrev bal0 : Bal := ⟨0, 0⟩
theorem climb_nodup {L : List Acc} {c : Int} (h : Ends L c) : (climb L c).Nodup := by
 have := ends_climb h
 unfold climb at *
 exact climbN_nodup (by omega)
def amtB (n : Int) : Bool := decide (-1000000000000 ≤ n) && decide (n ≤ 1000000000000)
open Go.RowKit
structure B2 (w : World) (b o : Nat) (a : Bal) : Prop where
 c0 : w.cell? ⟨b, o, none⟩ = some (.int .i64 a.acct)
 c1 : w.cell? ⟨b, o + 1, none⟩ = some (.int .i64 a.amt)
def BalAt (w : World) (A : Option Addr) (L : List Bal) : Prop := 0 < L.length → ∃ b off, A = some ⟨b, off, none⟩ ∧ b < w.heap.size ∧ ∀ i, i < L.length → B2 w b (off + i * 2) (L.getD i bal0)
structure BB (w : World) (g : Nat) (a : Bal) : Prop where
 cells : B2 w g 0 a
 lt : g < w.heap.size
section
variable {w w' : World} {b o g B : Nat} {a : Acc} {x : Bal} {A : Option Addr} {L : List Acc} {M : List Bal}
theorem B2.up (h : B2 w b o x) (hb : Below B w w') (hlt : b < B) : B2 w' b o x :=
 ⟨(hb.cell (p := ⟨b, o, none⟩) hlt).trans h.c0, (hb.cell (p := ⟨b, o + 1, none⟩) hlt).trans h.c1⟩
theorem BalAt.up (h : BalAt w A M) (hb : Below w.heap.size w w') : BalAt w' A M := fun h0 => by
 obtain ⟨b, off, e, hlt, hc⟩ := h h0
 exact ⟨b, off, e, Nat.lt_of_lt_of_le hlt hb.size, fun i hi => (hc i hi).up hb hlt⟩
theorem BalAt.nil : BalAt w A [] := fun h => absurd h (by simp)
theorem BB.up (h : BB w g x) (hb : Below w.heap.size w w') : BB w' g x := ⟨h.cells.up hb h.lt, Nat.lt_of_lt_of_le h.lt hb.size⟩
end
theorem bb_new (w : World) (t : TypeId) (a : Bal) : BB (w.alloc (.cells #[.int .i64 a.acct, .int .i64 a.amt] t)) w.heap.size a := by
 refine ⟨⟨?_, ?_⟩, by simp⟩ <;> (simp only [World.cell?]; rw [heap_alloc_new]; rfl)
def SlB (w : World) (v : Value) (L : List Bal) : Prop := ∃ A c, v = .slice A L.length c ∧ BalAt w A L
theorem SlB.nil {w : World} : SlB w (.slice none 0 0) [] := ⟨none, 0, rfl, BalAt.nil⟩
def balC (b : Bal) : List Value := [.int .i64 b.acct, .int .i64 b.amt]
def OwnB (e : TypeId) (w : World) (base : Nat) (v : Value) (L : List Bal) : Prop := w.ownsRow base e 2 v L.length (L.flatMap balC)
theorem balC_get : ∀ (L : List Bal) (i : Nat), i < L.length → (L.flatMap balC)[i * 2]? = some (.int .i64 (L.getD i bal0).acct) ∧ (L.flatMap balC)[i * 2 + 1]? = some (.int .i64 (L.getD i bal0).amt)
 | [], i, h => by simp at h
 | a :: L, 0, _ => by simp [balC]
 | a :: L, i + 1, h => by
  have := balC_get L i (by simpa using h)
  have e1 : (i + 1) * 2 = i * 2 + 1 + 1 := by omega
  rw [List.flatMap_cons, e1]
  simpa [balC] using this
theorem OwnB.nil {e : TypeId} {w : World} {base : Nat} : OwnB e w base (.slice none 0 0) [] := World.ownsRow_nil _ _ _ _
theorem OwnB.slb {e : TypeId} {w : World} {base : Nat} {v : Value} {L : List Bal} (h : OwnB e w base v L) : SlB w v L := by
 obtain ⟨h1, h2⟩ := h
 rcases h2 with ⟨rfl, h0⟩ | ⟨g, cap, cur, rfl, hbg, hg, hn, hcap, hsz, hcur⟩
 ·obtain rfl : L = [] := List.eq_nil_of_length_eq_zero h0
  exact SlB.nil
 ·refine ⟨_, cap, rfl, fun _ => ⟨g, 0, rfl, ?_, fun j hj => ?_⟩⟩
  ·rcases Nat.lt_or_ge g w.heap.size with hlt | hge
   ·exact hlt
   ·rw [Array.getElem?_eq_none hge] at hg; cases hg
  ·have key : ∀ i, i < L.length * 2 → w.cell? ⟨g, i, none⟩ = (L.flatMap balC)[i]? := by
    intro i hi
    rw [← hcur, List.getElem?_take, if_pos hi]
    simp only [World.cell?, hg]
    simp
   obtain ⟨k1, k2⟩ := balC_get L j hj
   exact ⟨by rw [Nat.zero_add, key _ (by omega)]; exact k1, by rw [Nat.zero_add, key _ (by omega)]; exact k2⟩
theorem wpList_append_bal {P : Program} (w : World) {ops : Array Oper} {rest : List Oper} {o : Oper} {a : Act} {Q : Exit → Act → World → Prop} (hgd : o.guard = none) (s x : Operand) (t : TypeId)
  (ho : o.op = .call { callee := .builtin .append, args := #[s, x], argTypes := #[t, t] })
  (base : Nat) (e : TypeId) (i : TypeInfo) (bytes : Nat) (ht : P.underlying t = some (.slice e)) (hi : P.info? e = some i) (hz : i.zero = some (.agg #[.int .i64 0, .int .i64 0]))
  (hsize : i.size = 2) (hby : i.bytes = bytes) (hb8 : bytes ≤ 16)
  (v : Value) (L : List Bal) (hs : a.eval s = v) (hown : OwnB e w base v L) (X Y : Int) (c : Nat) (hx : a.eval x = .slice (some ⟨w.heap.size, 0, none⟩) 1 c)
  (hlen : L.length ≤ 100000000) (hbase : base ≤ w.heap.size)
  (h : ∀ v' w', Hid (OwnB e w' base v' (L ++ [⟨X, Y⟩])) → Below base w w' → wpList P ops Q rest (a.put o.dst v') w') : wpList P ops Q (o :: rest) a (w.alloc (.cells #[.int .i64 X, .int .i64 Y] e)) := by
 refine wpList_append_own (w.alloc (.cells #[.int .i64 X, .int .i64 Y] e)) hgd s x t ho base e i (.agg #[.int .i64 0, .int .i64 0]) 2 bytes ht hi hz hsize hby rfl (by decide) v L.length (L.flatMap balC) hs (World.ownsRow.alloc hown _)
  ⟨w.heap.size, 0, none⟩ 1 c [.int .i64 X, .int .i64 Y] hx rfl ?_ ?_ ?_ ?_ ?_ ?_
 ·intro j u hj
  match j, hj with
  | 0, hj =>
   simp at hj; subst hj
   unfold World.cell? Addr.add
   rw [if_pos rfl]
   dsimp only
   rw [heap_alloc_new]
   rfl
  | 1, hj =>
   simp at hj; subst hj
   unfold World.cell? Addr.add
   rw [if_neg (by decide)]
   dsimp only
   rw [heap_alloc_new]
   rfl
  | j + 2, hj => simp at hj
 ·intro u hu
  simp at hu
  rcases hu with rfl | rfl <;> rfl
 ·unfold maxLen; omega
 ·have : (L.length + 1) * bytes ≤ (L.length + 1) * 16 := Nat.mul_le_mul_left _ hb8
  omega
 ·simp; omega
 ·intro v' w' h1 h2 _
  refine h v' w' ?_ ?_
  ·show World.ownsRow _ _ _ _ _ _ _
   rw [List.length_append, List.flatMap_append]
   exact h1
  ·refine ((Below.refl base w).alloc hbase _).grown h2 (by simp; omega) (fun j hj => ?_)
   exact (World.ownsRow.lt hown j hj).1
theorem wpList_append_bg {P : Program} (w : World) {ops : Array Oper} {rest : List Oper} {o : Oper} {a : Act} {Q : Exit → Act → World → Prop} (hgd : o.guard = none) (s x : Operand) (t : TypeId)
  (ho : o.op = .call { callee := .builtin .append, args := #[s, x], argTypes := #[t, t] })
  (base : Nat) (e : TypeId) (i : TypeInfo) (bytes : Nat) (ht : P.underlying t = some (.slice e)) (hi : P.info? e = some i) (hz : i.zero = some (.agg #[.int .i64 0, .int .i64 0]))
  (hsize : i.size = 2) (hby : i.bytes = bytes) (hb8 : bytes ≤ 16)
  (v : Value) (L : List Bal) (hs : a.eval s = v) (hown : OwnB e w base v L) (X Y : Int) (g c : Nat) (hg : g = w.heap.size) (hx : a.eval x = .slice (some ⟨g, 0, none⟩) 1 c)
  (hlen : L.length ≤ 100000000) (hbase : base ≤ w.heap.size)
  (h : ∀ v' w', Hid (OwnB e w' base v' (L ++ [⟨X, Y⟩])) → Below base w w' → wpList P ops Q rest (a.put o.dst v') w') : wpList P ops Q (o :: rest) a (w.alloc (.cells #[.int .i64 X, .int .i64 Y] e)) := by
 subst hg
 exact wpList_append_bal w hgd s x t ho base e i bytes ht hi hz hsize hby hb8 v L hs hown X Y c hx hlen hbase h
theorem infoI_bal : (Try.prog.info? 43).map (fun i => (i.zero, i.size, i.bytes)) = some (some (.agg #[.int .i64 0, .int .i64 0]), 2, 16) := by kernel_rfl
open Go.RowKit
theorem cisamt_any (n : Int) (w : World) : Calls Try.prog 41 #[.int .i64 n] w fun e w' => e = .returned (.bool (amtB n)) ∧ w = w' := by
 unfold amtB
 rcases Int.lt_or_le n (-1000000000000) with h | h
 ·have h1 : decide (-1000000000000 ≤ n) = false := decide_eq_false (by omega)
  rw [h1]
  go_enter Try.func41, Try.ntmps41
  go_wp2_with fail
  go_ret
  exact ⟨rfl, rfl⟩
 ·have h1 : decide (-1000000000000 ≤ n) = true := decide_eq_true h
  rw [h1]
  go_enter Try.func41, Try.ntmps41
  go_wp2_with fail
  go_ret
  exact ⟨rfl, rfl⟩
theorem chfew_any (A B : Option Addr) (n m c d : Nat) (w : World) : Calls Try.prog 18 #[.slice A n c, .slice B m d] w fun e w' => e = .returned (.bool (decide (n ≤ 60) && decide (m ≤ 60))) ∧ w = w' := by
 rcases Nat.lt_or_ge 60 n with h | h
 ·have h1 : decide (n ≤ 60) = false := decide_eq_false (by omega)
  have h2 : decide ((n : Int) ≤ 60) = false := decide_eq_false (by omega)
  rw [h1]
  go_enter Try.func18, Try.ntmps18
  go_wp2_with fail
  go_ret
  exact ⟨rfl, rfl⟩
 ·have h1 : decide (n ≤ 60) = true := decide_eq_true (by omega)
  have h2 : decide ((n : Int) ≤ 60) = true := decide_eq_true (by omega)
  rcases Nat.lt_or_ge 60 m with h' | h'
  ·have h3 : decide (m ≤ 60) = false := decide_eq_false (by omega)
   have h4 : decide ((m : Int) ≤ 60) = false := decide_eq_false (by omega)
   rw [h1, h3]
   clear h h'
   go_enter Try.func18, Try.ntmps18
   go_wp2_with fail
   go_ret
   exact ⟨rfl, rfl⟩
  ·have h3 : decide (m ≤ 60) = true := decide_eq_true (by omega)
   have h4 : decide ((m : Int) ≤ 60) = true := decide_eq_true (by omega)
   rw [h1, h3]
   clear h h'
   go_enter Try.func18, Try.ntmps18
   go_wp2_with fail
   go_ret
   exact ⟨rfl, rfl⟩
def addTo8 (L : List Acc) (c : Int) (x : Bal) : Int := if c ∈ climb L x.acct then x.amt else 0
def sumC (L : List Acc) (b : List Bal) (c : Int) : Int := (b.map (addTo8 L c)).sum
theorem sumC_succ {L : List Acc} {b : List Bal} {c : Int} {k : Nat} (hk : k < b.length) : sumC L (b.take (k + 1)) c = sumC L (b.take k) c + addTo8 L c (b.getD k bal0) := by
 rw [take_succ_getD (d := bal0) hk]
 unfold sumC
 rw [List.map_append, List.sum_append]; simp
theorem amtB_is {n : Int} : amtB n = true ↔ -1000000000000 ≤ n ∧ n ≤ 1000000000000 := by unfold amtB; simp
theorem sumC_bound {L : List Acc} {c : Int} : ∀ {b : List Bal}, (∀ x ∈ b, amtB x.amt = true) → -(b.length * 1000000000000 : Int) ≤ sumC L b c ∧ sumC L b c ≤ b.length * 1000000000000
 | [], _ => by simp [sumC]
 | x :: b, h => by
  obtain ⟨h1, h2⟩ := sumC_bound (L := L) (c := c) (b := b) (fun y hy => h y (List.mem_cons_of_mem _ hy))
  have h3 := amtB_is.1 (h x (List.mem_cons_self ..))
  have h4 : sumC L (x :: b) c = addTo8 L c x + sumC L b c := by simp [sumC]
  have h5 : -1000000000000 ≤ addTo8 L c x ∧ addTo8 L c x ≤ 1000000000000 := by unfold addTo8; split <;> omega
  rw [h4]
  simp only [List.length_cons, Int.natCast_add]
  omega
def lastA (b : List Bal) : Nat → Int
 | 0 => 0
 | k + 1 => (b.getD k bal0).acct
def balP (L : List Acc) (b : List Bal) (k : Nat) : Bool := (fnd L (b.getD k bal0).acct).isSome && (decide (lastA b k < (b.getD k bal0).acct) && amtB (b.getD k bal0).amt)
def balTo (L : List Acc) (b : List Bal) : Nat → Bool
 | 0 => true
 | k + 1 => balTo L b k && balP L b k
theorem balTo_le {L : List Acc} {b : List Bal} : ∀ {k m : Nat}, k ≤ m → balTo L b m = true → balTo L b k = true
  | k, m, h, hm => by
    induction m with
    | zero => obtain rfl : k = 0 := by omega
              exact hm
    | succ m ih =>
      rcases Nat.lt_or_ge k (m + 1) with h1 | h1
      · rw [balTo, Bool.and_eq_true] at hm
        exact ih (by omega) hm.1
      · obtain rfl : k = m + 1 := by omega
        exact hm
def balB (L : List Acc) (b : List Bal) : Bool := balTo L b b.length
theorem balB_no {L : List Acc} {b : List Bal} {k : Nat} (hk : k < b.length) (h : balP L b k = false) : balB L b = false := by
 cases h1 : balTo L b b.length with
 | false => exact h1
 | true =>
  have := balTo_le (k := k + 1) (by omega) h1
  rw [balTo, h, Bool.and_false] at this; cases this
theorem balTo_is {L : List Acc} {b : List Bal} : ∀ {k : Nat}, balTo L b k = true ↔ ∀ i, i < k → balP L b i = true
 | 0 => ⟨fun _ i hi => by omega, fun _ => rfl⟩
 | k + 1 => by
  rw [balTo, Bool.and_eq_true, balTo_is]
  constructor
  ·rintro ⟨h1, h2⟩ i hi
   rcases Nat.lt_or_ge i k with h3 | h3
   ·exact h1 i h3
   ·obtain rfl : i = k := by omega
    exact h2
  ·intro h; exact ⟨fun i hi => h i (by omega), h k (by omega)⟩
theorem balP_is {L : List Acc} {b : List Bal} {k : Nat} : balP L b k = true ↔ (∃ a, fnd L (b.getD k bal0).acct = some a) ∧ lastA b k < (b.getD k bal0).acct ∧ amtB (b.getD k bal0).amt = true := by
 unfold balP
 rw [Bool.and_eq_true, Bool.and_eq_true, decide_eq_true_eq, Option.isSome_iff_exists]
structure Bals (L : List Acc) (b : List Bal) : Prop where
 fnd : ∀ k, k < b.length → ∃ a, fnd L (b.getD k bal0).acct = some a
 up : ∀ k, k < b.length → lastA b k < (b.getD k bal0).acct
 amt : ∀ x ∈ b, amtB x.amt = true
theorem balB_bals {L : List Acc} {b : List Bal} (h : balB L b = true) : Bals L b := by
 have h1 := balTo_is.1 h
 refine ⟨fun k hk => (balP_is.1 (h1 k hk)).1, fun k hk => (balP_is.1 (h1 k hk)).2.1, fun x hx => ?_⟩
 obtain ⟨k, hk, rfl⟩ := mem_getD_acc (d := bal0) hx
 exact (balP_is.1 (h1 k hk)).2.2
def okS (L : List Acc) (b : List Bal) (a : Acc) : Bool := amtB (sumC L b a.code)
def rollE (L : List Acc) (b : List Bal) : Int := if (eiB L && balB L b) = true then if L.all (okS L b) = true then 0 else 2 else 1
def pick0 (l : List Bal) : List Bal := l.filter fun x => decide (x.amt ≠ 0)
def rowsB (L : List Acc) (f : Int → Int) : List Bal := pick0 (L.map fun a => ⟨a.code, f a.code⟩)
def rollL (L : List Acc) (b : List Bal) : List Bal := if rollE L b = 0 then rowsB L (sumC L b) else []
theorem rowsB_succ {L : List Acc} {f : Int → Int} {k : Nat} (hk : k < L.length) : rowsB (L.take (k + 1)) f = if f (L.getD k acc0).code = 0 then rowsB (L.take k) f else rowsB (L.take k) f ++ [⟨(L.getD k acc0).code, f (L.getD k acc0).code⟩] := by
 rw [take_succ_getD (d := acc0) hk]
 unfold rowsB pick0
 rw [List.map_append, List.filter_append]
 generalize L.getD k acc0 = x
 simp only [List.map_cons, List.map_nil]
 split
 ·rename_i h; rw [List.filter_cons_of_neg (by simp [h])]; simp
 ·rename_i h; rw [List.filter_cons_of_pos (by simp [h])]; rfl
theorem rowsB_len {L : List Acc} {f : Int → Int} : (rowsB L f).length ≤ L.length := by
 unfold rowsB pick0
 exact Nat.le_trans (List.length_filter_le _ _) (by simp)
theorem rollE_bad {L : List Acc} {b : List Bal} (h : (eiB L && balB L b) = false) : rollE L b = 1 := by unfold rollE; rw [h]; rfl
theorem rollE_range {L : List Acc} {b : List Bal} (h : (eiB L && balB L b) = true) (h2 : L.all (okS L b) = false) : rollE L b = 2 := by unfold rollE; rw [h, h2]; rfl
theorem rollE_ok {L : List Acc} {b : List Bal} (h : (eiB L && balB L b) = true) (h2 : L.all (okS L b) = true) : rollE L b = 0 := by unfold rollE; rw [h, h2]; rfl
theorem rollL_ok {L : List Acc} {b : List Bal} (h : rollE L b = 0) : rollL L b = rowsB L (sumC L b) := by unfold rollL; rw [if_pos h]
theorem rollL_bad {L : List Acc} {b : List Bal} (h : rollE L b ≠ 0) : rollL L b = [] := by unfold rollL; rw [if_neg h]
theorem map_set_at {L : List Acc} {F : Acc → Int} {i : Nat} {v : Int} (hS : Srt L) (hi : i < L.length) : (L.map F).set i v = L.map fun a => if a.code = (L.getD i acc0).code then v else F a := by
 apply List.ext_getElem
 ·simp
 ·intro j h1 h2
  have hj : j < L.length := by simpa using h2
  rw [List.getElem_set, List.getElem_map, List.getElem_map]
  have hg : ∀ k (h : k < L.length), L[k] = L.getD k acc0 := fun k h => by rw [List.getD_eq_getElem?_getD, List.getElem?_eq_getElem h]; rfl
  rw [hg j hj]
  by_cases hij : i = j
  ·subst hij; rw [if_pos rfl, if_pos rfl]
  ·rw [if_neg hij, if_neg (fun e => hij (hS.inj hj hi e).symm)]
def wayS (base : Int → Int) (full : List Int) (amt : Int) (j : Nat) (a : Acc) : Int := base a.code + if a.code ∈ full.take j then amt else 0
theorem wayS_step {L : List Acc} {base : Int → Int} {full : List Int} {amt : Int} {j i : Nat} (hS : Srt L) (hn : full.Nodup) (hj : j < full.length) (hi : i < L.length) (hc : (L.getD i acc0).code = full.getD j 0) :
  (L.map (wayS base full amt j)).getD i 0 = base (full.getD j 0) ∧ (L.map (wayS base full amt j)).set i (base (full.getD j 0) + amt) = L.map (wayS base full amt (j + 1)) := by
 have hnm : full.getD j 0 ∉ full.take j := by
  intro hm
  obtain ⟨t, ht, e⟩ := mem_getD_acc (d := (0 : Int)) hm
  have ht2 : t < j := by rw [List.length_take] at ht; omega
  have e2 : full.getD t 0 = full.getD j 0 := by
   rw [← e, List.getD_eq_getElem?_getD, List.getD_eq_getElem?_getD, List.getElem?_take, if_pos ht2]
  rw [List.nodup_iff_pairwise_ne, List.pairwise_iff_getElem] at hn
  have := hn t j (by omega) hj ht2
  rw [List.getD_eq_getElem?_getD, List.getD_eq_getElem?_getD, List.getElem?_eq_getElem hj, List.getElem?_eq_getElem (show t < full.length by omega)] at e2
  exact this e2
 constructor
 ·rw [List.getD_eq_getElem?_getD, List.getElem?_map, List.getElem?_eq_getElem hi]
  have hg : L[i] = L.getD i acc0 := by rw [List.getD_eq_getElem?_getD, List.getElem?_eq_getElem hi]; rfl
  show wayS base full amt j L[i] = _
  rw [hg]
  unfold wayS
  rw [hc, if_neg hnm]; omega
 ·rw [map_set_at hS hi]
  apply List.map_congr_left
  intro a ha
  rw [hc]
  unfold wayS
  by_cases h : a.code = full.getD j 0
  ·rw [if_pos h, h, if_pos ((take_mem_succ hj).2 (.inr rfl))]
  ·rw [if_neg h]
   congr 1
   by_cases h2 : a.code ∈ full.take j
   ·rw [if_pos h2, if_pos ((take_mem_succ hj).2 (.inl h2))]
   ·rw [if_neg h2, if_neg (fun h3 => ((take_mem_succ hj).1 h3).elim h2 (fun h4 => h h4.symm))]
theorem wayS_start {L : List Acc} {base : Int → Int} {full : List Int} {amt : Int} : L.map (wayS base full amt 0) = L.map fun a => base a.code := by
 apply List.map_congr_left
 intro a _
 unfold wayS
 simp
theorem wayS_end {L : List Acc} {b : List Bal} {k : Nat} (hk : k < b.length) : L.map (wayS (sumC L (b.take k)) (climb L (b.getD k bal0).acct) (b.getD k bal0).amt (climb L (b.getD k bal0).acct).length) = L.map fun a => sumC L (b.take (k + 1)) a.code := by
 apply List.map_congr_left
 intro a _
 unfold wayS
 rw [sumC_succ hk, List.take_length]
 rfl
set_option maxRecDepth 20000 in
set_option maxHeartbeats 3200000 in
theorem carebal_any (A B : Option Addr) (cp d : Nat) (L : List Acc) (b : List Bal) (w : World) (hz : AccAt w A L) (hy : BalAt w B b) (hl : L.length ≤ 1000) (hm : b.length ≤ 1000) (hS : Srt L) :
    Calls Try.prog 39 #[.slice A L.length cp, .slice B b.length d] w fun e w' => e = .returned (.bool (balB L b)) ∧ Below w.heap.size w w' := by
  have hB := Below.refl w.heap.size w
  have hI := fun y w h => cidx_any A cp L y w h hl hS
  obtain ⟨n, hn⟩ : ∃ n, L.length = n := ⟨_, rfl⟩
  obtain ⟨m, hm2⟩ : ∃ m, b.length = m := ⟨_, rfl⟩
  rw [hn] at hl hI ⊢
  rw [hm2] at hm ⊢
  have HN := Lib.hid hn
  have HM := Lib.hid hm2
  have HZ := Lib.hid hz
  have HY := Lib.hid hy
  have HI := Lib.hid hI
  clear hn hm2 hz hy hI hS
  go_enter Try.func39, Try.ntmps39
  go_wp2_with fail
  go_loopg [5, 12] m (fun kx s5 s12 wr => ∃ k : Nat, s5 = .int .i64 (lastA b k) ∧ s12 = .int .i64 k ∧ k ≤ m ∧ m - k ≤ kx ∧ Hid (balTo L b k = true) ∧ Below w.heap.size w wr)
  case atStart => exact ⟨0, rfl, rfl, by omega, by omega, Lib.hid rfl, hB⟩
  case round =>
    clear hB
    obtain ⟨k, rfl, rfl, hk, hkx, HC, hB⟩ := hrel
    by_cases hlt : k < m
    · have hltz : (k : Int) < (m : Int) := by omega
      obtain ⟨bb, off, rfl, hbw, hcs⟩ := HY.out (by rw [HM.out]; omega)
      obtain ⟨c0, c1⟩ := (hcs k (by rw [HM.out]; exact hlt)).up hB hbw
      have hno := fun h => balB_no (L := L) (b := b) (k := k) (by rw [HM.out]; exact hlt) h
      have hyes : balTo L b (k + 1) = balP L b k := by rw [balTo, HC.out, Bool.true_and]
      have hla : lastA b (k + 1) = (b.getD k bal0).acct := rfl
      have hp : balP L b k = ((fnd L (b.getD k bal0).acct).isSome && (decide (lastA b k < (b.getD k bal0).acct) && amtB (b.getD k bal0).amt)) := rfl
      generalize b.getD k bal0 = x at *
      have HX := Lib.hid hla
      have HB1 := Lib.hid (below_new hB (.cells #[.int .i64 x.acct, .int .i64 x.amt] 43))
      have HAB := Lib.hid (bb_new wr 43 x)
      have hi := HI.out x.acct _ (HZ.out.up HB1.out)
      have ha := fun w => cisamt_any x.amt w
      clear hcs hla
      cases hf : (fnd L x.acct).isSome
      · rw [hf] at hi hp
        have E := Lib.hid (hno (hp.trans (by simp)))
        have HI1 := Lib.hid hi
        clear hi hf hp hyes hno ha
        go_wp2_with (go_at_call 38; refine HI1.out.mono ?_; rintro e w1 ⟨i, rfl, -, hb⟩; replace hB := below_more HB1.out hb; clear hb)
        go_ret
        exact ⟨by rw [E.out]; rfl, hB⟩
      · rw [hf, Bool.true_and] at hp
        rw [hf] at hi
        have HI1 := Lib.hid hi
        clear hi hf
        rcases Int.lt_or_le (lastA b k) x.acct with h1 | h1
        · have e1 : decide (x.acct ≤ lastA b k) = false := decide_eq_false (by omega)
          rw [decide_eq_true h1, Bool.true_and] at hp
          cases hq : amtB x.amt
          all_goals
            rw [hq] at ha hp
            have HA := Lib.hid ha
            have HP := Lib.hid hp
            have HYes := Lib.hid hyes
            have HNo := Lib.hid hno
            clear ha hp hyes hno hq h1
            go_wp2_with (first
              | (go_at_call 38; refine HI1.out.mono ?_; rintro e w1 ⟨i, rfl, -, hb⟩; obtain ⟨⟨z0, z1⟩, zlt⟩ := HAB.out.up hb; simp only [Nat.zero_add] at z1; replace hB := below_more HB1.out hb; clear hb)
              | (go_at_call 41; refine (HA.out _).mono ?_; rintro e w2 ⟨rfl, rfl⟩))
            first
              | (have E : Hid (balB L b = false) := Lib.hid (HNo.out HP.out)
                 go_ret
                 exact ⟨by rw [E.out]; rfl, hB⟩)
              | (have HC2 : Hid (balTo L b (k + 1) = true) := Lib.hid (by rw [HYes.out, HP.out])
                 go_roundg (m - (k + 1))
                 case measure => omega
                 case rel => exact ⟨k + 1, by rw [HX.out], by go_num, by omega, by omega, HC2, hB⟩)
        · have e1 : decide (x.acct ≤ lastA b k) = true := decide_eq_true h1
          rw [decide_eq_false (show ¬ lastA b k < x.acct by omega), Bool.false_and] at hp
          have E := Lib.hid (hno hp)
          clear hp hyes hno ha h1
          go_wp2_with (go_at_call 38; refine HI1.out.mono ?_; rintro e w1 ⟨i, rfl, -, hb⟩; obtain ⟨⟨z0, z1⟩, zlt⟩ := HAB.out.up hb; simp only [Nat.zero_add] at z1; replace hB := below_more HB1.out hb; clear hb)
          go_ret
          exact ⟨by rw [E.out]; rfl, hB⟩
    · obtain rfl : k = m := by omega
      have hltz : ¬ (k : Int) < (k : Int) := by omega
      have E : Hid (balB L b = true) := Lib.hid (by have := HC.out; rw [← HM.out] at this; exact this)
      generalize lastA b k = z at *
      go_wp2_with fail
      go_ret
      exact ⟨by rw [E.out]; rfl, hB⟩
set_option maxRecDepth 20000 in
set_option maxHeartbeats 3200000 in
theorem csums_any (A B : Option Addr) (cp d : Nat) (L : List Acc) (b : List Bal) (w : World) (hz : AccAt w A L) (hy : BalAt w B b) (hl : L.length ≤ 1000) (hm : b.length ≤ 1000) (hG : Good L) (hb : Bals L b) :
  Calls Try.prog 40 #[.slice A L.length cp, .slice B b.length d] w fun e w' => ∃ g, e = .returned (.slice (some ⟨g, 0, none⟩) L.length L.length) ∧ IB w' g (L.map fun a => sumC L b a.code) ∧ Below w.heap.size w w' := by
 have hI := fun y w h => cidx_any A cp L y w h hl hG.srt
 obtain ⟨n, hn⟩ : ∃ n, L.length = n := ⟨_, rfl⟩
 obtain ⟨m, hm2⟩ : ∃ m, b.length = m := ⟨_, rfl⟩
 obtain ⟨s0, hs0⟩ : ∃ s0, w.heap.size = s0 := ⟨_, rfl⟩
 have hz0 : (List.replicate n 0 : List Int) = L.map fun a => sumC L (b.take 0) a.code := by
  rw [← hn, List.take_zero]
  have : (fun a : Acc => sumC L [] a.code) = fun _ => (0 : Int) := rfl
  rw [this, List.map_const']
 rw [hn] at hl hI ⊢
 rw [hm2] at hm ⊢
 have HN := Lib.hid hn
 have HM := Lib.hid hm2
 have HZ := Lib.hid hz
 have HY := Lib.hid hy
 have HI := Lib.hid hI
 have HG := Lib.hid hG
 have HBL := Lib.hid hb
 have HS0 := Lib.hid hs0
 have HZ0 := Lib.hid hz0
 obtain ⟨i0, hi, hz1, hz2, hz3⟩ := info_parts infoI_int
 clear hn hm2 hz hy hI hG hb hs0 hz0
 go_enter Try.func40, Try.ntmps40
 go_wp2_with (at_make; refine wpList_make_zeros _ rfl (.tmp 11) (.tmp 11) 30 rfl 3 .i64 i0 8 Try.underlying30 hi hz1 hz2 hz3 .i64 .i64 _ _ n rfl rfl rfl rfl (by omega) (by omega) ?_; intro w1 hb1 hB1 hs1)
 have hI1 := IB.zeros hb1.out
 rw [HZ0.out] at hI1
 have HI1 := Lib.hid hI1
 rw [HS0.out] at hB1 HI1 hs1
 clear hb1 hI1
 rw [HS0.out]
 go_loopg [15] m (fun kx s15 wr => ∃ k : Nat, s15 = .int .i64 k ∧ k ≤ m ∧ m - k ≤ kx ∧ Hid (IB wr s0 (L.map fun a => sumC L (b.take k) a.code)) ∧ Below s0 w wr)
 case atStart => exact ⟨0, rfl, by omega, by omega, HI1, hB1⟩
 case round =>
  clear hB1 HI1 hs1
  obtain ⟨k, rfl, hk, hkx, HIB, hB⟩ := hrel
  by_cases hlt : k < m
  ·have hltz : (k : Int) < (m : Int) := by omega
   obtain ⟨bb, off, rfl, hbw, hcs⟩ := HY.out (by rw [HM.out]; omega)
   have hbs : bb < s0 := by have := HS0.out; omega
   have a2 := hcs k (by rw [HM.out]; exact hlt)
   obtain ⟨c0, c1⟩ := a2.up hB hbs
   have hend := wayS_end (L := L) (b := b) (k := k) (by rw [HM.out]; exact hlt)
   obtain ⟨ax, hax⟩ := HBL.out.fnd k (by rw [HM.out]; exact hlt)
   have hamt := amtB_is.1 (HBL.out.amt _ (getD_mem_acc (d := bal0) (show k < b.length by rw [HM.out]; exact hlt)))
   have hbound : ∀ c, -(1000 * 1000000000000 : Int) ≤ sumC L (b.take k) c ∧ sumC L (b.take k) c ≤ 1000 * 1000000000000 := fun c => by
    have h1 := sumC_bound (L := L) (c := c) (b := b.take k) (fun x hx => HBL.out.amt x (List.mem_of_mem_take hx))
    have h2 : (b.take k).length ≤ 1000 := by rw [List.length_take]; omega
    have h3 : ((b.take k).length : Int) ≤ 1000 := by omega
    omega
   obtain ⟨x, hx⟩ : ∃ x, b.getD k bal0 = x := ⟨_, rfl⟩
   rw [hx] at c0 c1 a2 hend hax hamt
   have hfl : (climb L x.acct).length ≤ L.length := ends_climb (HG.out.ends _)
   have hnd : (climb L x.acct).Nodup := climb_nodup (HG.out.ends _)
   have hf0 : climbN L (L.length + 1 - 0) x.acct = (climb L x.acct).drop 0 := rfl
   obtain ⟨full, hfull⟩ : ∃ full, climb L x.acct = full := ⟨_, rfl⟩
   rw [hfull] at hend hfl hnd hf0
   rw [HN.out] at hfl hf0
   obtain ⟨base, hbase⟩ : ∃ base, sumC L (b.take k) = base := ⟨_, rfl⟩
   rw [hbase] at hend hbound
   have HIB2 : Hid (IB wr s0 (L.map (wayS base full x.amt 0))) := Lib.hid (by rw [wayS_start, ← hbase]; exact HIB.out)
   have HEND := Lib.hid hend
   have HND := Lib.hid hnd
   have HF0 := Lib.hid hf0
   have HBD := Lib.hid hbound
   have HX := Lib.hid hx
   have hsz : s0 ≤ wr.heap.size := by have := hB.size; have := HS0.out; omega
   have HB1 := Lib.hid (hB.alloc hsz (.cells #[.int .i64 x.acct, .int .i64 x.amt] 43))
   have HAB := Lib.hid (bb_new wr 43 x)
   have HIB3 := Lib.hid (HIB2.out.alloc (.cells #[.int .i64 x.acct, .int .i64 x.amt] 43))
   have hix := HI.out x.acct _ (HZ.out.up (by rw [HS0.out]; exact HB1.out))
   have HIX := Lib.hid hix
   obtain ⟨gb, hgb⟩ : ∃ gb, wr.heap.size = gb := ⟨_, rfl⟩
   have HGB := Lib.hid hgb
   have hne : s0 ≠ gb := by have := HIB.out.lt; omega
   clear hcs a2 hend hx hnd hf0 hbound hfull hbase hax hix HIB HIB2 hgb
   obtain ⟨am1, am2⟩ := hamt
   go_wp2_with (go_at_call 38; refine HIX.out.mono ?_; rintro e w2 ⟨i, rfl, hfa, hb⟩; have HFA := Lib.hid hfa; have hB2 := HB1.out.trans (hb.mono (by (simp; omega))); have HAB2 := Lib.hid (HAB.out.up hb); have HIB4 := Lib.hid (HIB3.out.more hb); clear hb hfa)
   rw [HGB.out] at HAB2
   rw [HGB.out]
   clear HB1 HAB HIB3 HIX hB c0 c1
   go_loopg [8, 9] n (fun kx s8 s9 W => ∃ (j i : Nat) (y : Int), s8 = .int .i64 i ∧ s9 = .bool (fnd L y).isSome ∧ j ≤ full.length ∧ n - j ≤ kx ∧ Hid (FoundAt L y i) ∧ Hid (climbN L (n + 1 - j) y = full.drop j) ∧ Hid (IB W s0 (L.map (wayS base full x.amt j))) ∧ Hid (BB W gb x) ∧ Below s0 w W)
   case atStart => exact ⟨0, i, x.acct, rfl, rfl, by omega, by omega, HFA, HF0, HIB4, HAB2, hB2⟩
   case round =>
    clear HFA HF0 HIB4 HAB2 hB2
    obtain ⟨j, i, y, rfl, rfl, hj, hjx, HFA, HD, HIB, HAB, hB⟩ := hrel
    cases hc : fnd L y with
    | none =>
     have hdr : full.drop j = [] := by rw [← HD.out, climbN_none hc]
     have hjl : j = full.length := by have := congrArg List.length hdr; rw [List.length_drop] at this; simp at this; omega
     have HIB2 : Hid (IB wr s0 (L.map fun a => sumC L (b.take (k + 1)) a.code)) := Lib.hid (by rw [← HEND.out, ← hjl]; exact HIB.out)
     clear hdr hjl hc
     go_wp2_with fail
     go_roundg (m - (k + 1))
     case measure => omega
     case rel => exact ⟨k + 1, by go_num, by omega, by omega, HIB2, hB⟩
    | some a =>
     obtain ⟨hil, hie⟩ := HFA.out a hc
     have hst : climbN L (n + 1 - j) y = y :: climbN L (n - j) a.par := by
      rw [show n + 1 - j = (n - j) + 1 by omega, climbN_some hc]
     have hd1 : full.drop j = y :: climbN L (n - j) a.par := by rw [← HD.out, hst]
     have hjl : j < full.length := by have := congrArg List.length hd1; rw [List.length_drop] at this; simp at this; omega
     have hd2 := drop_getD (d := (0 : Int)) hjl
     rw [hd1] at hd2
     injection hd2 with hy2 hd3
     have HD2 : Hid (climbN L (n + 1 - (j + 1)) a.par = full.drop (j + 1)) := Lib.hid (by rw [← hd3]; congr 1; omega)
     have hci : (L.getD i acc0).code = full.getD j 0 := by rw [hie, ← hy2]; exact (fnd_some hc).2
     obtain ⟨hw1, hw2⟩ := wayS_step (L := L) (base := base) (full := full) (amt := x.amt) (j := j) (i := i) HG.out.srt HND.out hjl hil hci
     have hibl : i < (L.map (wayS base full x.amt j)).length := by simpa using hil
     have hcell := HIB.out.cell i hibl
     have hfz := HIB.out.frozen i
     have hset := HIB.out.set i (base (full.getD j 0) + x.amt)
     rw [hw1] at hcell
     rw [hw2] at hset
     obtain ⟨bd1, bd2⟩ := HBD.out (full.getD j 0)
     generalize base (full.getD j 0) = S at *
     have HSET := Lib.hid hset
     rw [HN.out] at hil
     have hiz : (i : Int) < (n : Int) := by omega
     have hgs : s0 < wr.heap.size := HIB.out.lt
     have hsz2 : s0 ≤ wr.heap.size := by omega
     have hABs : BB (wr.setCell ⟨s0, i, none⟩ (.int .i64 (S + x.amt))) gb x :=
      ⟨⟨(World.cell?_setCell_other wr _ _ _ (fun e => hne (by injection e))).trans HAB.out.cells.c0, (World.cell?_setCell_other wr _ _ _ (fun e => hne (by injection e))).trans HAB.out.cells.c1⟩, by simpa [World.setCell] using HAB.out.lt⟩
     have HABS := Lib.hid hABs
     obtain ⟨⟨z0, z1⟩, zlt⟩ := HAB.out
     simp only [Nat.zero_add] at z1
     obtain ⟨ba, offa, rfl, hbwa, hcsa⟩ := HZ.out (by rw [HN.out]; omega)
     have hbsa : ba < s0 := by have := HS0.out; omega
     have a4 := hcsa i (by rw [HN.out]; exact hil)
     rw [hie] at a4
     have HA4 := Lib.hid a4
     have hjn : j < n := by omega
     clear hst hd1 hd3 hy2 hc hie hci hw1 hw2 hset hABs hcsa a4 HFA hibl
     go_wp2_with fail
     go_region
     have HB1 : Hid (Below s0 w (wr.setCell ⟨s0, i, none⟩ (.int .i64 (S + x.amt))).drew) := Lib.hid (dc_drew (Below.setCell (p := ⟨s0, i, none⟩) hB (Nat.le_refl _) _))
     have HI1 : Hid (IB (wr.setCell ⟨s0, i, none⟩ (.int .i64 (S + x.amt))).drew s0 (L.map (wayS base full x.amt (j + 1)))) := Lib.hid HSET.out.drew
     have HA1 : Hid (BB (wr.setCell ⟨s0, i, none⟩ (.int .i64 (S + x.amt))).drew gb x) := Lib.hid ⟨⟨HABS.out.cells.c0, HABS.out.cells.c1⟩, HABS.out.lt⟩
     generalize (wr.setCell ⟨s0, i, none⟩ (.int .i64 (S + x.amt))).drew = W1 at *
     have hsz1 : s0 ≤ W1.heap.size := by have := HB1.out.size; have := HS0.out; omega
     have hix := HI.out a.par W1 (HZ.out.up (by rw [HS0.out]; exact HB1.out))
     have HIX := Lib.hid hix
     obtain ⟨e0, e1, e2, e3⟩ := HA4.out.up HB1.out hbsa
     clear hix z0 z1 zlt hcell hfz HSET HABS bd1 bd2 hB HIB HAB hgs hsz2
     go_wp2_with (go_at_call 38; refine HIX.out.mono ?_; rintro e w3 ⟨i3, rfl, hfa, hb⟩; replace hfa := Lib.hid hfa; have hB3 := HB1.out.trans (hb.mono hsz1); have HIB3 := Lib.hid (HI1.out.more hb); have HAB3 := Lib.hid (HA1.out.up hb); clear hb)
     go_roundg (n - (j + 1))
     case measure => omega
     case rel => exact ⟨j + 1, i3, a.par, rfl, rfl, by omega, by omega, hfa, HD2, HIB3, HAB3, hB3⟩
  ·obtain rfl : k = m := by omega
   have hltz : ¬ (k : Int) < (k : Int) := by omega
   have hI3 := HIB.out
   rw [List.take_of_length_le (by rw [HM.out]; omega)] at hI3
   have HI3 := Lib.hid hI3
   clear hI3
   go_wp2_with fail
   go_ret
   exact ⟨_, rfl, HI3.out, by rw [HS0.out]; exact hB⟩
set_option maxRecDepth 20000 in
set_option maxHeartbeats 3200000 in
theorem croll_any (A B : Option Addr) (cp d : Nat) (L : List Acc) (b : List Bal) (w : World) (hz : AccAt w A L) (hy : BalAt w B b) (hl : L.length ≤ 1000) (hm : b.length ≤ 1000) :
  Calls Try.prog 23 #[.slice A L.length cp, .slice B b.length d] w fun e w' => ∃ v, e = .returned (.tuple #[v, .int .i64 (rollE L b)]) ∧ SlB w' v (rollL L b) ∧ Below w.heap.size w w' := by
 have hB := Below.refl w.heap.size w
 have h1 := fun w h => cischart_any A cp L w h hl
 cases he : eiB L
 ·have E := rollE_bad (L := L) (b := b) (by rw [he]; rfl)
  have R := rollL_bad (L := L) (b := b) (by rw [E]; decide)
  rw [he] at h1
  rw [E, R]
  generalize L.length = n at *
  generalize b.length = m at *
  have H1 := Lib.hid h1
  have HZ := Lib.hid hz
  clear h1 he hz hy E R
  go_enter Try.func23, Try.ntmps23
  go_wp2_with (go_at_call 36; refine (H1.out _ (HZ.out.up hB)).mono ?_; rintro e w1 ⟨rfl, hb⟩; replace hB := below_more hB hb; clear hb)
  go_ret2
  exact ⟨_, rfl, SlB.nil, hB⟩
 have hG := eiB_good he
 rw [he] at h1
 have h2 := fun w h h' => carebal_any A B cp d L b w h h' hl hm hG.srt
 cases hb0 : balB L b
 ·have E := rollE_bad (L := L) (b := b) (by rw [hb0, Bool.and_false])
  have R := rollL_bad (L := L) (b := b) (by rw [E]; decide)
  rw [hb0] at h2
  rw [E, R]
  generalize L.length = n at *
  generalize b.length = m at *
  have H1 := Lib.hid h1
  have H2 := Lib.hid h2
  have HZ := Lib.hid hz
  have HY := Lib.hid hy
  clear h1 h2 he hz hy hb0 E R hG
  go_enter Try.func23, Try.ntmps23
  go_wp2_with (first
   | (go_at_call 36; refine (H1.out _ (HZ.out.up hB)).mono ?_; rintro e w1 ⟨rfl, hb⟩; replace hB := below_more hB hb; clear hb)
   | (go_at_call 39; refine (H2.out _ (HZ.out.up hB) (HY.out.up hB)).mono ?_; rintro e w1 ⟨rfl, hb⟩; replace hB := below_more hB hb; clear hb))
  go_ret2
  exact ⟨_, rfl, SlB.nil, hB⟩
 have hok : (eiB L && balB L b) = true := by rw [he, hb0]; rfl
 have hBL := balB_bals hb0
 rw [hb0] at h2
 have h3 := fun w h h' => csums_any A B cp d L b w h h' hl hm hG hBL
 have hP : ∀ a, okS L b a = amtB (sumC L b a.code) := fun _ => rfl
 have hE1 := fun h => rollE_range (L := L) (b := b) hok h
 have hE0 := fun h => rollE_ok (L := L) (b := b) hok h
 have hR0 := fun h => rollL_ok (L := L) (b := b) h
 have hR1 := fun h => rollL_bad (L := L) (b := b) h
 generalize rollE L b = re at *
 generalize rollL L b = rl at *
 generalize okS L b = P at *
 generalize sumC L b = f at *
 obtain ⟨n, hn⟩ : ∃ n, L.length = n := ⟨_, rfl⟩
 obtain ⟨m, hm2⟩ : ∃ m, b.length = m := ⟨_, rfl⟩
 rw [hn] at hl h1 h2 h3 ⊢
 rw [hm2] at hm h2 h3 ⊢
 have HN := Lib.hid hn
 have HZ := Lib.hid hz
 have HY := Lib.hid hy
 have H1 := Lib.hid h1
 have H2 := Lib.hid h2
 have H3 := Lib.hid h3
 have HP := Lib.hid hP
 have HE1 := Lib.hid hE1
 have HE0 := Lib.hid hE0
 have HR1 := Lib.hid hR1
 have HR0 := Lib.hid hR0
 obtain ⟨i0, hi, hz1, hz2, hz3⟩ := info_parts infoI_bal
 clear hn hm2 hz hy h1 h2 h3 he hb0 hok hG hBL hP hE1 hE0 hR1 hR0
 go_enter Try.func23, Try.ntmps23
 go_wp2_with (first
  | (go_at_call 36; refine (H1.out _ (HZ.out.up hB)).mono ?_; rintro e w1 ⟨rfl, hb⟩; replace hB := below_more hB hb; clear hb)
  | (go_at_call 39; refine (H2.out _ (HZ.out.up hB) (HY.out.up hB)).mono ?_; rintro e w1 ⟨rfl, hb⟩; replace hB := below_more hB hb; clear hb)
  | (go_at_call 40; refine (H3.out _ (HZ.out.up hB) (HY.out.up hB)).mono ?_; rintro e w2 ⟨g, rfl, hib, hb⟩; replace hB := below_more hB hb; have HIB := Lib.hid hib; clear hb hib))
 obtain ⟨s1, hs1⟩ : ∃ s1, w2.heap.size = s1 := ⟨_, rfl⟩
 have hws : w.heap.size ≤ s1 := by rw [← hs1]; exact hB.size
 have hgs : g < s1 := by rw [← hs1]; exact HIB.out.lt
 have hB1 : Below s1 w2 w2 := Below.refl _ _
 have HB := Lib.hid hB
 have HS1 := Lib.hid hs1
 clear hs1 hB
 have hO : Hid (OwnB 43 w2 s1 (.slice none 0 0) (rowsB (L.take 0) f)) := Lib.hid OwnB.nil
 go_loopg [6, 22] n (fun kx s6 s22 wr => ∃ k : Nat, s22 = .int .i64 k ∧ k ≤ n ∧ n - k ≤ kx ∧ Hid ((L.take k).all P = true) ∧ Hid (OwnB 43 wr s1 s6 (rowsB (L.take k) f)) ∧ Below s1 w2 wr)
 case atStart => exact ⟨0, rfl, by omega, by omega, Lib.hid rfl, hO, hB1⟩
 case round =>
  clear hB1 hO
  obtain ⟨k, rfl, hk, hkx, HA, hO, hB⟩ := hrel
  have hsz : s1 ≤ wr.heap.size := by have := hB.size; have := HS1.out; omega
  by_cases hlt : k < n
  ·have hltz : (k : Int) < (n : Int) := by omega
   have hcg := (hB.cell (p := ⟨g, k, none⟩) hgs).trans (HIB.out.cell k (by simp; rw [HN.out]; exact hlt))
   have hgd : (L.map fun a => f a.code).getD k 0 = f (L.getD k acc0).code := by
    rw [List.getD_eq_getElem?_getD, List.getElem?_map, List.getD_eq_getElem?_getD, List.getElem?_eq_getElem (show k < L.length by rw [HN.out]; exact hlt)]; rfl
   rw [hgd] at hcg
   obtain ⟨ba, offa, rfl, hbwa, hcsa⟩ := HZ.out (by rw [HN.out]; omega)
   obtain ⟨c0, c1, c2, c3⟩ := ((hcsa k (by rw [HN.out]; exact hlt)).up HB.out hbwa).up hB (by omega)
   have htk := rowsB_succ (L := L) (f := f) (k := k) (by rw [HN.out]; exact hlt)
   have hno := fun h => all_false_getD (d := acc0) (p := P) (L := L) (k := k) (by rw [HN.out]; exact hlt) h
   have h9 := take_all_getD (d := acc0) (p := P) L k (by rw [HN.out]; exact hlt)
   have hpx := HP.out (L.getD k acc0)
   have hln : Hid ((rowsB (L.take k) f).length ≤ 100000000) := Lib.hid (by have := rowsB_len (L := L.take k) (f := f); rw [List.length_take] at this; omega)
   generalize L.getD k acc0 = x at *
   have ha := fun w => cisamt_any (f x.code) w
   obtain ⟨S, hS⟩ : ∃ S, f x.code = S := ⟨_, rfl⟩
   rw [hS] at hcg htk hpx ha
   have H9 := Lib.hid h9
   have HNo := Lib.hid hno
   clear hcsa hgd hS h9 hno
   cases hq : amtB S
   ·rw [hq] at ha hpx
    have E := Lib.hid (HE1.out (HNo.out hpx))
    have R := Lib.hid (HR1.out (by rw [E.out]; decide))
    have HAm := Lib.hid ha
    clear ha hpx hq htk
    go_wp2_with (go_at_call 41; refine (HAm.out _).mono ?_; rintro e w3 ⟨rfl, rfl⟩)
    go_ret2
    exact ⟨_, by rw [E.out]; rfl, by rw [R.out]; exact SlB.nil, HB.out.trans (hB.mono hws)⟩
   ·rw [hq] at ha hpx
    have HAm := Lib.hid ha
    have HA2 : Hid ((L.take (k + 1)).all P = true) := Lib.hid (by rw [H9.out, HA.out, hpx]; rfl)
    clear ha hpx hq
    by_cases h0 : S = 0
    ·rw [if_pos h0] at htk
     have e0 : (S != 0) = false := by simp [h0]
     have hO2 : Hid (OwnB 43 wr s1 u6 (rowsB (L.take (k + 1)) f)) := Lib.hid (by rw [htk]; exact hO.out)
     clear h0 htk
     go_wp2_with (go_at_call 41; refine (HAm.out _).mono ?_; rintro e w3 ⟨rfl, rfl⟩)
     go_roundg (n - (k + 1))
     case measure => omega
     case rel => exact ⟨k + 1, by go_num, by omega, by omega, HA2, hO2, hB⟩
    ·rw [if_neg h0] at htk
     have e0 : (S != 0) = true := by simp [h0]
     have HTK := Lib.hid htk
     clear h0 htk
     go_wp2_with (first
      | (go_at_call 41; refine (HAm.out _).mono ?_; rintro e w3 ⟨rfl, rfl⟩)
      | (at_builtin; refine wpList_append_bg _ rfl (.tmp 32) (.tmp 40) 34 rfl s1 43 i0 16 Try.underlying34 hi hz1 hz2 hz3 (by omega) u6 _ (by rfl) hO.out x.code S _ 1 (by first | rfl | simp) rfl hln.out hsz ?_; intro v2 w4 ho2 hb2; replace ho2 := ho2.out; rw [← HTK.out] at ho2; replace ho2 := Lib.hid ho2; replace hB := hB.trans hb2; clear hb2))
     go_roundg (n - (k + 1))
     case measure => omega
     case rel => exact ⟨k + 1, by go_num, by omega, by omega, HA2, ho2, hB⟩
  ·obtain rfl : k = n := by omega
   have hltz : ¬ (k : Int) < (k : Int) := by omega
   have E := Lib.hid (HE0.out (by have := HA.out; rwa [List.take_of_length_le (by rw [HN.out]; omega)] at this))
   have ho := hO.out.slb
   rw [List.take_of_length_le (by rw [HN.out]; omega), ← HR0.out E.out] at ho
   have HO := Lib.hid ho
   clear ho
   go_wp2_with fail
   go_ret2
   exact ⟨_, by rw [E.out]; rfl, HO.out, HB.out.trans (hB.mono hws)⟩
def ofStep (c : Int) (n : Int) (x : Bal) : Int := if x.acct = c then wrap64 (n + x.amt) else n
def ofW (b : List Bal) (c : Int) : Int := b.foldl (ofStep c) 0
theorem ofW_succ {b : List Bal} {c : Int} {k : Nat} (hk : k < b.length) : ofW (b.take (k + 1)) c = ofStep c (ofW (b.take k) c) (b.getD k bal0) := by
 unfold ofW
 rw [take_succ_getD (d := bal0) hk, List.foldl_append]; rfl
set_option maxRecDepth 20000 in
set_option maxHeartbeats 1600000 in
theorem rof8_any (B : Option Addr) (d : Nat) (b : List Bal) (c : Int) (w : World) (hy : BalAt w B b) (hm : b.length ≤ 100000) :
  Calls Try.prog 28 #[.slice B b.length d, .int .i64 c] w fun e w' => e = .returned (.int .i64 (ofW b c)) ∧ w = w' := by
 obtain ⟨m, hm2⟩ : ∃ m, b.length = m := ⟨_, rfl⟩
 rw [hm2] at hm ⊢
 have HM := Lib.hid hm2
 have HY := Lib.hid hy
 clear hm2 hy
 go_enter Try.func28, Try.ntmps28
 go_wp2_with fail
 go_loopg [5, 6] m (fun kx s5 s6 wr => ∃ k : Nat, s5 = .int .i64 (ofW (b.take k) c) ∧ s6 = .int .i64 k ∧ k ≤ m ∧ m - k ≤ kx ∧ w = wr)
 case atStart => exact ⟨0, rfl, rfl, by omega, by omega, rfl⟩
 case round =>
  obtain ⟨k, rfl, rfl, hk, hkx, rfl⟩ := hrel
  by_cases hlt : k < m
  ·have hltz : (k : Int) < (m : Int) := by omega
   obtain ⟨bb, off, rfl, hbw, hcs⟩ := HY.out (by rw [HM.out]; omega)
   obtain ⟨c0, c1⟩ := hcs k (by rw [HM.out]; exact hlt)
   have hs := ofW_succ (b := b) (c := c) (k := k) (by rw [HM.out]; exact hlt)
   generalize b.getD k bal0 = x at *
   generalize ofW (b.take k) c = S at *
   unfold ofStep at hs
   clear hcs
   by_cases he : x.acct = c
   ·rw [if_pos he] at hs
    have e0 : (x.acct == c) = true := by simp [he]
    have HS := Lib.hid hs
    clear hs he
    go_wp2_with fail
    go_roundg (m - (k + 1))
    case measure => omega
    case rel => exact ⟨k + 1, by rw [HS.out], by go_num, by omega, by omega, rfl⟩
   ·rw [if_neg he] at hs
    have e0 : (x.acct == c) = false := by simp [he]
    have HS := Lib.hid hs
    clear hs he
    go_wp2_with fail
    go_roundg (m - (k + 1))
    case measure => omega
    case rel => exact ⟨k + 1, by rw [HS.out], by go_num, by omega, by omega, rfl⟩
  ·obtain rfl : k = m := by omega
   have hltz : ¬ (k : Int) < (k : Int) := by omega
   have E : Hid (ofW b c = ofW (b.take k) c) := Lib.hid (by rw [List.take_of_length_le (by rw [HM.out]; omega)])
   generalize ofW (b.take k) c = S at *
   go_wp2_with fail
   go_ret
   exact ⟨by rw [E.out]; rfl, rfl⟩
theorem quiet_at {P : Program} {f : FuncId} {args : Array Value} {w : World} {n : Nat} {v : Value} (h : Calls P f args (w.drewN n) fun e w' => e = .returned v ∧ w.drewN n = w') :
  Calls P f args (w.drewN n) fun e w'' => e = .returned v ∧ ∃ m, w'' = w.drewN m := h.mono fun _ _ ⟨he, hw⟩ => ⟨he, n, hw.symm⟩
theorem BalAt.drewN {w : World} {A : Option Addr} {L : List Bal} (h : BalAt w A L) (n : Nat) : BalAt (w.drewN n) A L := fun h0 => by
 obtain ⟨b, off, e, hlt, hc⟩ := h h0
 exact ⟨b, off, e, hlt, fun i hi => ⟨(hc i hi).c0, (hc i hi).c1⟩⟩
def addW (a b : List Bal) (c : Int) : Int := wrap64 (ofW a c + ofW b c)
set_option maxRecDepth 20000 in
set_option maxHeartbeats 1600000 in
theorem radd8_any (A B C : Option Addr) (cp d d2 : Nat) (L : List Acc) (a b : List Bal) (w : World) (hz : AccAt w A L) (hy : BalAt w B a) (hy2 : BalAt w C b) (hl : L.length ≤ 1000) (hm : a.length ≤ 1000) (hm2 : b.length ≤ 1000) :
  Calls Try.prog 29 #[.slice A L.length cp, .slice B a.length d, .slice C b.length d2] w fun e w' => ∃ v, e = .returned v ∧ SlB w' v (rowsB L (addW a b)) ∧ Below w.heap.size w w' := by
 have hB := Below.refl w.heap.size w
 have hO1 := fun c w h => rof8_any B d a c w h (by omega)
 have hO2 := fun c w h => rof8_any C d2 b c w h (by omega)
 have haw : ∀ c, addW a b c = wrap64 (ofW a c + ofW b c) := fun _ => rfl
 obtain ⟨n, hn⟩ : ∃ n, L.length = n := ⟨_, rfl⟩
 obtain ⟨s0, hs0⟩ : ∃ s0, w.heap.size = s0 := ⟨_, rfl⟩
 rw [hn] at hl ⊢
 rw [hs0] at hB ⊢
 generalize a.length = na at *
 generalize b.length = nb at *
 generalize addW a b = f at *
 have HN := Lib.hid hn
 have HZ := Lib.hid hz
 have HY := Lib.hid hy
 have HY2 := Lib.hid hy2
 have HO1 := Lib.hid hO1
 have HO2 := Lib.hid hO2
 have HAW := Lib.hid haw
 have HS0 := Lib.hid hs0
 obtain ⟨i0, hi, hz1, hz2, hz3⟩ := info_parts infoI_bal
 clear hn hz hy hy2 hO1 hO2 haw hs0 hm hm2
 go_enter Try.func29, Try.ntmps29
 go_wp2_with fail
 have hO : Hid (OwnB 43 w s0 (.slice none 0 0) (rowsB (L.take 0) f)) := Lib.hid OwnB.nil
 go_loopg [7, 8] n (fun kx s7 s8 wr => ∃ k : Nat, s8 = .int .i64 k ∧ k ≤ n ∧ n - k ≤ kx ∧ Hid (OwnB 43 wr s0 s7 (rowsB (L.take k) f)) ∧ Below s0 w wr)
 case atStart => exact ⟨0, rfl, by omega, by omega, hO, hB⟩
 case round =>
  clear hB hO
  obtain ⟨k, rfl, hk, hkx, hO, hB⟩ := hrel
  have hsz : s0 ≤ wr.heap.size := by have := hB.size; have := HS0.out; omega
  by_cases hlt : k < n
  ·have hltz : (k : Int) < (n : Int) := by omega
   obtain ⟨ba, offa, rfl, hbwa, hcsa⟩ := HZ.out (by rw [HN.out]; omega)
   have hbs : ba < s0 := by have := HS0.out; omega
   have a4 := (hcsa k (by rw [HN.out]; exact hlt)).up hB hbs
   have htk := rowsB_succ (L := L) (f := f) (k := k) (by rw [HN.out]; exact hlt)
   have hln : Hid ((rowsB (L.take k) f).length ≤ 100000000) := Lib.hid (by have := rowsB_len (L := L.take k) (f := f); rw [List.length_take] at this; omega)
   generalize L.getD k acc0 = x at *
   have HA4 := Lib.hid a4
   obtain ⟨c0, c1, c2, c3⟩ := a4
   have hfx := HAW.out x.code
   have ho1 := fun W h => HO1.out x.code W h
   have ho2 := fun W h => HO2.out x.code W h
   generalize ofW a x.code = p at *
   generalize ofW b x.code = q at *
   have hya := HY.out.up (w' := wr) (by rw [HS0.out]; exact hB)
   have hyb := HY2.out.up (w' := wr) (by rw [HS0.out]; exact hB)
   have hqa : ∀ W : World, BalAt W B a → Calls Try.prog 28 #[.slice B na d, .int .i64 x.code] W fun e w' => e = .returned (.int .i64 p) ∧ W = w' := ho1
   have HYA := Lib.hid hya
   have HYB := Lib.hid hyb
   have HQ1 := Lib.hid ho1
   have HQ2 := Lib.hid ho2
   clear hcsa ho1 ho2 hya hyb hqa
   obtain ⟨S, hS⟩ : ∃ S, wrap64 (p + q) = S := ⟨_, rfl⟩
   rw [hS] at hfx
   rw [hfx] at htk
   by_cases h0 : S = 0
   ·rw [if_pos h0] at htk
    have e0 : (S != 0) = false := by simp [h0]
    have hO2 : Hid (OwnB 43 wr s0 u7 (rowsB (L.take (k + 1)) f)) := Lib.hid (by rw [htk]; exact hO.out)
    clear h0 htk hfx
    go_wp2_with fail
    go_quiet ((go_at_call 28; first | (with_reducible exact quiet_at (HQ1.out _ (HYA.out.drewN _))) | (with_reducible exact quiet_at (HQ2.out _ (HYB.out.drewN _)))))
    rw [hS]
    replace hB := below_drewN hB nq
    have hO3 : Hid (OwnB 43 (wr.drewN nq) s0 u7 (rowsB (L.take (k + 1)) f)) := Lib.hid hO2.out
    generalize World.drewN _ nq = W1 at *
    go_wp2_with fail
    go_roundg (n - (k + 1))
    case measure => omega
    case rel => exact ⟨k + 1, by go_num, by omega, by omega, hO3, hB⟩
   ·rw [if_neg h0] at htk
    have e0 : (S != 0) = true := by simp [h0]
    have HTK := Lib.hid htk
    clear h0 htk hfx
    go_wp2_with fail
    go_quiet ((go_at_call 28; first | (with_reducible exact quiet_at (HQ1.out _ (HYA.out.drewN _))) | (with_reducible exact quiet_at (HQ2.out _ (HYB.out.drewN _)))))
    rw [hS]
    replace hB := below_drewN hB nq
    have hO3 : Hid (OwnB 43 (wr.drewN nq) s0 u7 (rowsB (L.take k) f)) := Lib.hid hO.out
    have hc0 : (wr.drewN nq).cell? ⟨ba, offa + k * 4, none⟩ = some (.int .i64 x.code) := HA4.out.c0
    have hsz1 : s0 ≤ (wr.drewN nq).heap.size := hsz
    generalize World.drewN _ nq = W1 at *
    clear c0 c1 c2 c3
    go_wp2_with (at_builtin; refine wpList_append_bg _ rfl (.tmp 33) (.tmp 41) 34 rfl s0 43 i0 16 Try.underlying34 hi hz1 hz2 hz3 (by omega) u7 _ (by rfl) hO3.out x.code S _ 1 (by first | rfl | simp) rfl hln.out hsz1 ?_; intro v2 w4 ho2 hb2; replace ho2 := ho2.out; rw [← HTK.out] at ho2; replace ho2 := Lib.hid ho2; replace hB := hB.trans hb2; clear hb2)
    go_roundg (n - (k + 1))
    case measure => omega
    case rel => exact ⟨k + 1, by go_num, by omega, by omega, ho2, hB⟩
  ·obtain rfl : k = n := by omega
   have hltz : ¬ (k : Int) < (k : Int) := by omega
   have ho := hO.out.slb
   rw [List.take_of_length_le (by rw [HN.out]; omega)] at ho
   have HO := Lib.hid ho
   clear ho
   go_wp2_with fail
   go_ret
   exact ⟨_, rfl, HO.out, hB⟩
set_option maxRecDepth 20000 in
set_option maxHeartbeats 1600000 in
theorem rsameb_any (A B : Option Addr) (c d : Nat) (zs ys : List Bal) (w : World) (hz : BalAt w A zs) (hy : BalAt w B ys) (hl : zs.length ≤ 100000) (hl2 : ys.length ≤ 100000) :
  Calls Try.prog 25 #[.slice A zs.length c, .slice B ys.length d] w fun e w' => e = .returned (.bool (decide (zs = ys))) ∧ Below w.heap.size w w' := by
 have hB := Below.refl w.heap.size w
 obtain ⟨n, hn⟩ : ∃ n, zs.length = n := ⟨_, rfl⟩
 obtain ⟨m, hm⟩ : ∃ m, ys.length = m := ⟨_, rfl⟩
 rw [hn] at hl ⊢
 rw [hm] at hl2 ⊢
 by_cases hnm : n = m
 ·subst hnm
  have HN := Lib.hid hn
  have HM := Lib.hid hm
  have HZ := Lib.hid hz
  have HY := Lib.hid hy
  clear hn hm hz hy
  have hnn : ((n : Int) != (n : Int)) = false := by simp
  go_enter Try.func25, Try.ntmps25
  go_wp2_with fail
  go_loopg [5] n (fun kx s5 wr => ∃ k : Nat, s5 = .int .i64 k ∧ k ≤ n ∧ n - k ≤ kx ∧ Hid (zs.take k = ys.take k) ∧ Below w.heap.size w wr)
  case atStart => exact ⟨0, rfl, by omega, by omega, Lib.hid (by simp), hB⟩
  case round =>
   clear hB
   obtain ⟨k, rfl, hk, hkx, HT, hB⟩ := hrel
   by_cases hlt : k < n
   ·have hltz : (k : Int) < (n : Int) := by omega
    obtain ⟨b, off, rfl, hbw, hcs⟩ := HZ.out (by rw [HN.out]; omega)
    obtain ⟨b2, off2, rfl, hbw2, hcs2⟩ := HY.out (by rw [HM.out]; omega)
    obtain ⟨c0, c1⟩ := (hcs k (by rw [HN.out]; exact hlt)).up hB hbw
    obtain ⟨d0, d1⟩ := (hcs2 k (by rw [HM.out]; exact hlt)).up hB hbw2
    have ht1 := take_succ_getD (d := bal0) (L := zs) (i := k) (by rw [HN.out]; exact hlt)
    have ht2 := take_succ_getD (d := bal0) (L := ys) (i := k) (by rw [HM.out]; exact hlt)
    generalize zs.getD k bal0 = x at *
    generalize ys.getD k bal0 = y at *
    by_cases hxy : x = y
    ·subst hxy
     have HT2 : Hid (zs.take (k + 1) = ys.take (k + 1)) := Lib.hid (by rw [ht1, ht2, HT.out])
     clear ht1 ht2 hcs hcs2
     go_wp2_with fail
     go_quiet (fail)
     replace hB := below_drewN hB nq
     generalize World.drewN _ nq = W1 at *
     go_wp2_with fail
     go_roundg (n - (k + 1))
     case measure => omega
     case rel => exact ⟨k + 1, by go_num, by omega, by omega, HT2, hB⟩
    ·have hno : Hid (decide (zs = ys) = false) := Lib.hid (decide_eq_false fun e => by
      rw [e, ht2] at ht1
      have := List.append_cancel_left ht1
      simp at this; exact hxy this.symm)
     have hne : x.acct ≠ y.acct ∨ (x.acct = y.acct ∧ x.amt ≠ y.amt) := by
      by_cases h1 : x.acct = y.acct
      ·exact .inr ⟨h1, fun h2 => hxy (by cases x; cases y; simp at h1 h2; rw [h1, h2])⟩
      ·exact .inl h1
     clear ht1 ht2 hcs hcs2 hxy
     rcases hne with h1 | ⟨h1, h2⟩
     ·have q1 : (x.acct == y.acct) = false := by simp [h1]
      clear h1
      go_wp2_with fail
      go_quiet (fail)
      replace hB := below_drewN hB nq
      generalize World.drewN _ nq = W1 at *
      go_wp2_with fail
      go_ret
      exact ⟨by rw [hno.out]; rfl, hB⟩
     ·have q1 : (x.acct == y.acct) = true := by simp [h1]
      have q2 : (x.amt == y.amt) = false := by simp [h2]
      clear h1 h2
      go_wp2_with fail
      go_quiet (fail)
      replace hB := below_drewN hB nq
      generalize World.drewN _ nq = W1 at *
      go_wp2_with fail
      go_ret
      exact ⟨by rw [hno.out]; rfl, hB⟩
   ·obtain rfl : k = n := by omega
    have hltz : ¬ (k : Int) < (k : Int) := by omega
    have hyes : Hid (decide (zs = ys) = true) := Lib.hid (decide_eq_true (by have h := HT.out; rwa [List.take_of_length_le (by rw [HN.out]; omega), List.take_of_length_le (by rw [HM.out]; omega)] at h))
    go_wp2_with fail
    go_ret
    exact ⟨by rw [hyes.out]; rfl, hB⟩
 ·have hno : Hid (decide (zs = ys) = false) := Lib.hid (decide_eq_false fun e => hnm (by rw [← hn, ← hm, e]))
  have hnn : ((n : Int) != (m : Int)) = true := by simp; omega
  clear hn hm hz hy
  go_enter Try.func25, Try.ntmps25
  go_wp2_with fail
  go_ret
  exact ⟨by rw [hno.out]; rfl, hB⟩
theorem rollL_len {L : List Acc} {b : List Bal} : (rollL L b).length ≤ L.length := by
 unfold rollL; split
 ·exact rowsB_len
 ·simp
def sumI {α : Type} (l : List α) (f : α → Int) : Int := (l.map f).sum
theorem sumI_nil {α : Type} {f : α → Int} : sumI [] f = 0 := rfl
theorem sumI_cons {α : Type} {a : α} {l : List α} {f : α → Int} : sumI (a :: l) f = f a + sumI l f := by simp [sumI]
theorem sumI_congr {α : Type} {l : List α} {f g : α → Int} (h : ∀ x ∈ l, f x = g x) : sumI l f = sumI l g := by unfold sumI; rw [List.map_congr_left h]
theorem sumI_zero {α : Type} : ∀ {l : List α} {f : α → Int}, (∀ x ∈ l, f x = 0) → sumI l f = 0
 | [], _, _ => rfl
 | a :: l, f, h => by rw [sumI_cons, h a (List.mem_cons_self ..), sumI_zero fun x hx => h x (List.mem_cons_of_mem _ hx)]; rfl
theorem sumI_add {α : Type} : ∀ {l : List α} {f g : α → Int}, sumI l (fun x => f x + g x) = sumI l f + sumI l g
 | [], _, _ => rfl
 | a :: l, f, g => by rw [sumI_cons, sumI_cons, sumI_cons, sumI_add]; omega
theorem sumI_mul {α : Type} {z : Int} : ∀ {l : List α} {f : α → Int}, sumI l (fun x => f x * z) = sumI l f * z
 | [], _ => by simp [sumI]
 | a :: l, f => by rw [sumI_cons, sumI_cons, sumI_mul, Int.add_mul]
theorem sumI_swap {α β : Type} {m : List β} {f : α → β → Int} : ∀ {l : List α}, sumI l (fun x => sumI m (f x)) = sumI m (fun y => sumI l (fun x => f x y))
 | [] => by rw [sumI_nil]; exact (sumI_zero fun _ _ => rfl).symm
 | a :: l => by
  rw [sumI_cons, sumI_swap, ← sumI_add]
  exact sumI_congr fun y _ => (sumI_cons (f := fun x => f x y)).symm
theorem sumI_map {α β : Type} {h : α → β} {l : List α} {f : β → Int} : sumI (l.map h) f = sumI l (fun x => f (h x)) := by unfold sumI; rw [List.map_map]; rfl
theorem sumI_filter {α : Type} {p : α → Bool} : ∀ {l : List α} {f : α → Int}, sumI (l.filter p) f = sumI l (fun x => if p x = true then f x else 0)
 | [], _ => rfl
 | a :: l, f => by
  rw [sumI_cons, List.filter_cons]
  split
  ·rw [sumI_cons, sumI_filter]
  ·rw [sumI_filter]; omega
def inI (c : Int) (l : List Int) : Int := if c ∈ l then 1 else 0
theorem Srt.pair {L : List Acc} (h : Srt L) : L.Pairwise (fun x y => x.code ≠ y.code) := by
 rw [List.pairwise_iff_getElem]
 intro i j hi hj hij
 have := h.mono i j hij hj
 rw [List.getD_eq_getElem?_getD, List.getD_eq_getElem?_getD, List.getElem?_eq_getElem hi, List.getElem?_eq_getElem hj] at this
 simp only [Option.getD_some] at this
 omega
theorem sum_uniq {g : Acc → Int} : ∀ {L : List Acc}, L.Pairwise (fun x y => x.code ≠ y.code) → ∀ {a : Acc}, a ∈ L → sumI L (fun x => if x.code = a.code then g x else 0) = g a
 | [], _, a, h => by cases h
 | x :: L, hp, a, h => by
  rw [List.pairwise_cons] at hp
  rw [sumI_cons]
  rcases List.mem_cons.1 h with rfl | h
  ·rw [if_pos rfl, sumI_zero fun y hy => by rw [if_neg (fun e => hp.1 y hy e.symm)]]; omega
  ·rw [if_neg (hp.1 a h), sum_uniq hp.2 h]; omega
theorem Srt.uniq {L : List Acc} (h : Srt L) {g : Acc → Int} {a : Acc} (ha : a ∈ L) : sumI L (fun x => if x.code = a.code then g x else 0) = g a := sum_uniq h.pair ha
def ofS (b : List Bal) (c : Int) : Int := sumI b (fun y => if y.acct = c then y.amt else 0)
def roomI (b : List Bal) : Int := sumI b (fun _ => 1000000000000)
theorem roomI_le : ∀ {b : List Bal} {k : Nat}, b.length ≤ k → roomI b ≤ (k : Int) * 1000000000000
 | [], k, _ => by show (0 : Int) ≤ _; exact Int.mul_nonneg (by omega) (by decide)
 | y :: b, 0, h => by simp at h
 | y :: b, k + 1, h => by
  have := roomI_le (b := b) (k := k) (by simpa using h)
  show sumI (y :: b) _ ≤ _
  rw [sumI_cons]
  have e : ((k + 1 : Nat) : Int) * 1000000000000 = 1000000000000 + (k : Int) * 1000000000000 := by rw [Int.natCast_add, Int.add_mul]; omega
  rw [e]
  exact Int.add_le_add_left this _
theorem ofW_fold {c : Int} : ∀ (b : List Bal) (n : Int), (∀ y ∈ b, amtB y.amt = true) → -1000000000000000 + roomI b ≤ n → n ≤ 1000000000000000 - roomI b → b.foldl (ofStep c) n = n + ofS b c := by
 intro b
 induction b with
 | nil => intro n _ _ _; simp [ofS, sumI]
 | cons y b ih =>
  intro n h h1 h2
  have ha := amtB_is.1 (h y (List.mem_cons_self ..))
  have hr : roomI (y :: b) = 1000000000000 + roomI b := sumI_cons
  have ho : ofS (y :: b) c = (if y.acct = c then y.amt else 0) + ofS b c := sumI_cons
  rw [hr] at h1 h2
  have hr0 : 0 ≤ roomI b := by
   have : ∀ l : List Bal, 0 ≤ roomI l := by
    intro l
    induction l with
    | nil => exact Int.le_refl _
    | cons z l ih2 =>
     have : roomI (z :: l) = 1000000000000 + roomI l := sumI_cons
     omega
   exact this b
  have hs : ofStep c n y = n + if y.acct = c then y.amt else 0 := by
   unfold ofStep
   split
   ·exact IntWalk.wrap64_in _ ⟨by omega, by omega⟩
   ·omega
  have hb : -1000000000000 ≤ (if y.acct = c then y.amt else 0 : Int) ∧ (if y.acct = c then y.amt else 0 : Int) ≤ 1000000000000 := by split <;> omega
  rw [List.foldl_cons, hs, ho]
  generalize (if y.acct = c then y.amt else 0 : Int) = z at *
  rw [ih _ (fun z hz => h z (List.mem_cons_of_mem _ hz)) (by omega) (by omega)]
  omega
theorem room_1000 {b : List Bal} (hl : b.length ≤ 1000) : roomI b ≤ 1000000000000000 := by
 have := roomI_le hl
 exact this
theorem ofW_ofS {b : List Bal} {c : Int} (h : ∀ y ∈ b, amtB y.amt = true) (hl : b.length ≤ 1000) : ofW b c = ofS b c := by
 have := room_1000 hl
 unfold ofW
 rw [ofW_fold b 0 h (by omega) (by omega)]; omega
theorem ofS_bound {c : Int} : ∀ {l : List Bal}, (∀ y ∈ l, amtB y.amt = true) → -roomI l ≤ ofS l c ∧ ofS l c ≤ roomI l := by
 intro l
 induction l with
 | nil => intro _; exact ⟨Int.le_refl _, Int.le_refl _⟩
 | cons y l ih =>
  intro h
  have h1 := ih fun z hz => h z (List.mem_cons_of_mem _ hz)
  have h2 := amtB_is.1 (h y (List.mem_cons_self ..))
  have hr : roomI (y :: l) = 1000000000000 + roomI l := sumI_cons
  have h3 : ofS (y :: l) c = (if y.acct = c then y.amt else 0) + ofS l c := sumI_cons
  have h4 : -1000000000000 ≤ (if y.acct = c then y.amt else 0 : Int) ∧ (if y.acct = c then y.amt else 0 : Int) ≤ 1000000000000 := by split <;> omega
  rw [h3, hr]
  omega
theorem addTo8_in {L : List Acc} {c : Int} {y : Bal} : addTo8 L c y = inI c (climb L y.acct) * y.amt := by
 unfold addTo8 inI; split <;> omega
theorem sumC_sumI {L : List Acc} {b : List Bal} {c : Int} : sumC L b c = sumI b (fun y => inI c (climb L y.acct) * y.amt) := by
 unfold sumC
 show sumI b (addTo8 L c) = _
 exact sumI_congr fun y _ => addTo8_in
theorem ofS_pick {l : List Bal} {c : Int} : ofS (pick0 l) c = ofS l c := by
 unfold ofS pick0
 rw [sumI_filter]
 refine sumI_congr fun y _ => ?_
 by_cases h : y.amt = 0
 ·rw [if_neg (by simp [h])]; split <;> simp [h]
 ·rw [if_pos (by simp [h])]
theorem ofS_rows {L : List Acc} (hS : Srt L) {f : Int → Int} {a : Acc} (ha : a ∈ L) : ofS (rowsB L f) a.code = f a.code := by
 unfold rowsB
 rw [ofS_pick]
 unfold ofS
 rw [sumI_map]
 exact hS.uniq (g := fun x => f x.code) ha
theorem rowsB_amt {L : List Acc} {f : Int → Int} (h : ∀ a ∈ L, amtB (f a.code) = true) : ∀ y ∈ rowsB L f, amtB y.amt = true := by
 intro y hy
 unfold rowsB pick0 at hy
 obtain ⟨a, ha, rfl⟩ := List.mem_map.1 (List.mem_filter.1 hy).1
 exact h a ha
structure Rolled (L : List Acc) (b : List Bal) : Prop where
 good : Good L
 bals : Bals L b
 sums : ∀ a ∈ L, amtB (sumC L b a.code) = true
 rows : rollL L b = rowsB L (sumC L b)
theorem rollE_rolled {L : List Acc} {b : List Bal} (h : rollE L b = 0) : Rolled L b := by
 have hr := rollL_ok h
 unfold rollE at h
 split at h
 ·rename_i h1
  split at h
  ·rename_i h2
   rw [Bool.and_eq_true] at h1
   rw [List.all_eq_true] at h2
   exact ⟨eiB_good h1.1, balB_bals h1.2, fun a ha => h2 a ha, hr⟩
  ·cases h
 ·cases h
theorem Rolled.of {L : List Acc} {b : List Bal} (h : Rolled L b) (hl : L.length ≤ 1000) {a : Acc} (ha : a ∈ L) : ofW (rollL L b) a.code = sumC L b a.code := by
 rw [h.rows, ofW_ofS (rowsB_amt h.sums) (Nat.le_trans rowsB_len hl), ofS_rows h.good.srt ha]
theorem sumC_rows {L : List Acc} (_hG : Good L) {f : Int → Int} {c : Int} : sumC L (rowsB L f) c = sumI L (fun x => inI c (climb L x.code) * f x.code) := by
 rw [sumC_sumI]
 unfold rowsB pick0
 rw [sumI_filter, sumI_map]
 refine sumI_congr fun x _ => ?_
 by_cases h : f x.code = 0
 ·rw [if_neg (by simp [h])]; simp [h]
 ·rw [if_pos (by simp [h])]
theorem sumC_spread {L : List Acc} (hG : Good L) {b : List Bal} (hb : Bals L b) {c : Int} : sumI L (fun x => inI c (climb L x.code) * ofS b x.code) = sumC L b c := by
 have h1 : ∀ x ∈ L, inI c (climb L x.code) * ofS b x.code = sumI b (fun y => if x.code = y.acct then inI c (climb L x.code) * y.amt else 0) := by
  intro x _
  unfold ofS
  rw [Int.mul_comm, ← sumI_mul]
  refine sumI_congr fun y _ => ?_
  by_cases h : y.acct = x.code
  ·rw [if_pos h, if_pos h.symm, Int.mul_comm]
  ·rw [if_neg h, if_neg (fun e => h e.symm)]; omega
 rw [sumI_congr h1, sumI_swap, sumC_sumI]
 refine sumI_congr fun y hy => ?_
 obtain ⟨k, hk, rfl⟩ := mem_getD_acc (d := bal0) hy
 obtain ⟨a, ha⟩ := hb.fnd k hk
 obtain ⟨hm, hc⟩ := fnd_some ha
 rw [← hc]
 exact hG.srt.uniq (g := fun x => inI c (climb L x.code) * (b.getD k bal0).amt) hm
theorem roll_adds {L : List Acc} {a b : List Bal} (hl : L.length ≤ 1000) (hla : a.length ≤ 1000) (hlb : b.length ≤ 1000) (ha : rollE L a = 0) (hb : rollE L b = 0) (hc : rollE L (rowsB L (addW a b)) = 0) :
  rollL L (rowsB L (addW a b)) = rowsB L (addW (rollL L a) (rollL L b)) := by
 have Ra := rollE_rolled ha
 have Rb := rollE_rolled hb
 have Rc := rollE_rolled hc
 have hG := Ra.good
 rw [Rc.rows]
 have hbd : ∀ (l : List Bal), Bals L l → l.length ≤ 1000 → ∀ c, -1000000000000000 ≤ ofS l c ∧ ofS l c ≤ 1000000000000000 := by
  intro l h hl2 c
  have h1 := ofS_bound (c := c) h.amt
  have h2 := room_1000 hl2
  omega
 have e1 : ∀ x ∈ L, addW a b x.code = ofS a x.code + ofS b x.code := by
  intro x _
  unfold addW
  rw [ofW_ofS Ra.bals.amt hla, ofW_ofS Rb.bals.amt hlb]
  have h1 := hbd a Ra.bals hla x.code
  have h2 := hbd b Rb.bals hlb x.code
  exact IntWalk.wrap64_in _ ⟨by omega, by omega⟩
 have e2 : ∀ x ∈ L, addW (rollL L a) (rollL L b) x.code = sumC L a x.code + sumC L b x.code := by
  intro x hx
  unfold addW
  rw [Ra.of hl hx, Rb.of hl hx]
  have h1 := amtB_is.1 (Ra.sums x hx)
  have h2 := amtB_is.1 (Rb.sums x hx)
  exact IntWalk.wrap64_in _ ⟨by omega, by omega⟩
 have e3 : ∀ c, sumC L (rowsB L (addW a b)) c = sumC L a c + sumC L b c := by
  intro c
  rw [sumC_rows hG, sumI_congr (fun x hx => by rw [e1 x hx, Int.mul_add]), sumI_add, sumC_spread hG Ra.bals, sumC_spread hG Rb.bals]
 unfold rowsB at e3 ⊢
 rw [List.map_congr_left (g := fun x => (⟨x.code, addW (rollL L a) (rollL L b) x.code⟩ : Bal))]
 intro x hx
 rw [e3, e2 x hx]
theorem errB {E : Int} : (E != 0) = !decide (E = 0) := by rw [Bool.eq_iff_iff]; simp
set_option maxRecDepth 20000 in
set_option maxHeartbeats 6400000 in
theorem law_chadds (A : Option Addr) (len c : Nat) (L : List Acc) (B : Option Addr) (la ca : Nat) (a : List Bal) (C : Option Addr) (lb cb : Nat) (b : List Bal) (w : World) (hlen : L.length = len) (hz : AccAt w A L) (hla : a.length = la) (hy : BalAt w B a) (hlb : b.length = lb) (hy2 : BalAt w C b) :
  Calls Try.prog 9 #[.slice A len c, .slice B la ca, .slice C lb cb] w fun e w' => e = .returned (.bool true) ∧ Below w.heap.size w w' := by
 have hB := Below.refl w.heap.size w
 have HZ := Lib.hid hz
 have HY := Lib.hid hy
 have HY2 := Lib.hid hy2
 clear hz hy hy2
 have hf1 := fun w => chfew_any A B len la c ca w
 have hf2 := fun w => chfew_any A C len lb c cb w
 by_cases h1 : len ≤ 60 ∧ la ≤ 60
 ·obtain ⟨hl1, hl2⟩ := h1
  rw [decide_eq_true hl1, decide_eq_true hl2] at hf1
  rw [decide_eq_true hl1] at hf2
  have HF1 := Lib.hid hf1
  by_cases hl3 : lb ≤ 60
  ·rw [decide_eq_true hl3] at hf2
   have HF2 := Lib.hid hf2
   have hadd := roll_adds (L := L) (a := a) (b := b) (by omega) (by omega) (by omega)
   have r1 := fun w h h' => croll_any A B c ca L a w h h' (by omega) (by omega)
   have r2 := fun w h h' => croll_any A C c cb L b w h h' (by omega) (by omega)
   have ad1 := fun w h h' h'' => radd8_any A B C c ca cb L a b w h h' h'' (by omega) (by omega) (by omega)
   have hra : (rowsB L (addW a b)).length ≤ 60 := by have := rowsB_len (L := L) (f := addW a b); omega
   have r3 := fun B2 d w h h' => croll_any A B2 c d L (rowsB L (addW a b)) w h h' (by omega) (by omega)
   have hR1 : (rollL L a).length ≤ 60 := by have := rollL_len (L := L) (b := a); omega
   have hR2 : (rollL L b).length ≤ 60 := by have := rollL_len (L := L) (b := b); omega
   have hR3 : (rollL L (rowsB L (addW a b))).length ≤ 60 := by have := rollL_len (L := L) (b := rowsB L (addW a b)); omega
   have ad2 := fun B2 d2 C2 d3 w h h' h'' => radd8_any A B2 C2 c d2 d3 L (rollL L a) (rollL L b) w h h' h'' (by omega) (by omega) (by omega)
   have hRR : (rowsB L (addW (rollL L a) (rollL L b))).length ≤ 60 := by have := rowsB_len (L := L) (f := addW (rollL L a) (rollL L b)); omega
   generalize rowsB L (addW (rollL L a) (rollL L b)) = RR at *
   generalize rowsB L (addW a b) = RA at *
   generalize rollL L RA = R3 at *
   generalize rollE L RA = E3 at *
   generalize rollL L a = R1 at *
   generalize rollE L a = E1 at *
   generalize rollL L b = R2 at *
   generalize rollE L b = E2 at *
   obtain ⟨na, hna⟩ : ∃ na, RA.length = na := ⟨_, rfl⟩
   obtain ⟨n1, hn1⟩ : ∃ n1, R1.length = n1 := ⟨_, rfl⟩
   obtain ⟨n2, hn2⟩ : ∃ n2, R2.length = n2 := ⟨_, rfl⟩
   obtain ⟨n3, hn3⟩ : ∃ n3, R3.length = n3 := ⟨_, rfl⟩
   obtain ⟨nr, hnr⟩ : ∃ nr, RR.length = nr := ⟨_, rfl⟩
   have sm := fun A B c d w h1 h2 => rsameb_any A B c d R3 RR w h1 h2 (by omega) (by omega)
   rw [hlen, hla] at r1
   rw [hlen, hlb] at r2
   rw [hlen, hla, hlb] at ad1
   rw [hlen, hna] at r3
   rw [hlen, hn1, hn2] at ad2
   rw [hn3, hnr] at sm
   have HNA := Lib.hid hna
   have HN1 := Lib.hid hn1
   have HN2 := Lib.hid hn2
   have HN3 := Lib.hid hn3
   have HNR := Lib.hid hnr
   have HR1 := Lib.hid r1
   have HR2 := Lib.hid r2
   have HR3 := Lib.hid r3
   have HA1 := Lib.hid ad1
   have HA2 := Lib.hid ad2
   have HADD := Lib.hid hadd
   have HSM := Lib.hid sm
   have he1 := errB (E := E1)
   have he2 := errB (E := E2)
   have he3 := errB (E := E3)
   clear hf1 hf2 hlen hla hlb hl1 hl2 hl3 r1 r2 r3 ad1 ad2 hadd sm hra hR1 hR2 hR3 hRR hna hn1 hn2 hn3 hnr
   have hdec : E1 ≠ 0 ∨ (E1 = 0 ∧ E2 ≠ 0) ∨ (E1 = 0 ∧ E2 = 0 ∧ E3 ≠ 0) ∨ (E1 = 0 ∧ E2 = 0 ∧ E3 = 0) := by omega
   go_enter Try.func9, Try.ntmps9
   go_upto_region 8 with (first
    | (go_at_call 10; refine (chawake_any _).mono ?_; rintro e w1 ⟨rfl, hb⟩; replace hB := below_more hB hb; clear hb)
    | (go_at_call 18; ((with_reducible refine (HF1.out _).mono ?_)); rintro e w2 ⟨rfl, rfl⟩)
    | (go_at_call 18; ((with_reducible refine (HF2.out _).mono ?_)); rintro e w3 ⟨rfl, rfl⟩)
    | (go_at_call 23; ((with_reducible refine (HR1.out _ (HZ.out.up hB) (HY.out.up hB)).mono ?_)); rintro e w4 ⟨v1, rfl, hs1, hb⟩; replace hB := below_more hB hb; obtain ⟨A1, d1, hv1, hI1⟩ := hs1; rw [HN1.out] at hv1; subst hv1; have HI1 := Lib.hid hI1; clear hb hI1)
    | (go_at_call 23; ((with_reducible refine (HR2.out _ (HZ.out.up hB) (HY2.out.up hB)).mono ?_)); rintro e w5 ⟨v2, rfl, hs2, hb⟩; replace hB := below_more hB hb; replace HI1 := Lib.hid (HI1.out.up hb); obtain ⟨A2, d2, hv2, hI2⟩ := hs2; rw [HN2.out] at hv2; subst hv2; have HI2 := Lib.hid hI2; clear hb hI2)
    | (go_at_call 29; ((with_reducible refine (HA1.out _ (HZ.out.up hB) (HY.out.up hB) (HY2.out.up hB)).mono ?_)); rintro e w6 ⟨v3, rfl, hs3, hb⟩; replace hB := below_more hB hb; replace HI1 := Lib.hid (HI1.out.up hb); replace HI2 := Lib.hid (HI2.out.up hb); obtain ⟨A3, d3, hv3, hI3⟩ := hs3; rw [HNA.out] at hv3; subst hv3; have HI3 := Lib.hid hI3; clear hb hI3)
    | (go_at_call 23; ((with_reducible refine (HR3.out _ _ _ (HZ.out.up hB) HI3.out).mono ?_)); rintro e w7 ⟨v4, rfl, hs4, hb⟩; replace hB := below_more hB hb; replace HI1 := Lib.hid (HI1.out.up hb); replace HI2 := Lib.hid (HI2.out.up hb); obtain ⟨A4, d4, hv4, hI4⟩ := hs4; rw [HN3.out] at hv4; subst hv4; have HI4 := Lib.hid hI4; clear hb hI4))
   rcases hdec with h | ⟨h, h'⟩ | ⟨h, h', h''⟩ | ⟨h, h', h''⟩
   ·rw [decide_eq_false h] at he1
    clear he2 he3 h
    go_wp2_with fail
    go_ret
    exact ⟨rfl, hB⟩
   ·rw [decide_eq_true h] at he1
    rw [decide_eq_false h'] at he2
    clear he3 h h'
    go_wp2_with fail
    go_ret
    exact ⟨rfl, hB⟩
   ·rw [decide_eq_true h] at he1
    rw [decide_eq_true h'] at he2
    rw [decide_eq_false h''] at he3
    clear h h' h''
    go_wp2_with fail
    go_ret
    exact ⟨rfl, hB⟩
   ·have heq := HADD.out h h' h''
    have hsm := HSM.out
    rw [decide_eq_true heq] at hsm
    have HSM2 := Lib.hid hsm
    rw [decide_eq_true h] at he1
    rw [decide_eq_true h'] at he2
    rw [decide_eq_true h''] at he3
    clear h h' h'' heq hsm
    go_wp2_with (first
     | (go_at_call 29; refine (HA2.out _ _ _ _ _ (HZ.out.up hB) HI1.out HI2.out).mono ?_; rintro e w8 ⟨v5, rfl, hs5, hb⟩; replace hB := below_more hB hb; replace HI4 := Lib.hid (HI4.out.up hb); obtain ⟨A5, d5, hv5, hI5⟩ := hs5; rw [HNR.out] at hv5; subst hv5; have HI5 := Lib.hid hI5; clear hb hI5)
     | (go_at_call 25; refine (HSM2.out _ _ _ _ _ HI4.out HI5.out).mono ?_; rintro e w9 ⟨rfl, hb⟩; replace hB := below_more hB hb; clear hb))
    go_ret
    exact ⟨rfl, hB⟩
  ·rw [decide_eq_false hl3] at hf2
   have HF2 := Lib.hid hf2
   clear hf1 hf2 hlen hla hlb
   go_enter Try.func9, Try.ntmps9
   go_wp2_with (first
    | (go_at_call 10; refine (chawake_any _).mono ?_; rintro e w1 ⟨rfl, hb⟩; replace hB := below_more hB hb; clear hb)
    | (go_at_call 18; ((with_reducible refine (HF1.out _).mono ?_)); rintro e w2 ⟨rfl, rfl⟩)
    | (go_at_call 18; ((with_reducible refine (HF2.out _).mono ?_)); rintro e w3 ⟨rfl, rfl⟩))
   go_ret
   exact ⟨rfl, hB⟩
 ·have hff : (decide (len ≤ 60) && decide (la ≤ 60)) = false := by
   rw [Bool.and_eq_false_iff]
   by_cases h2 : len ≤ 60
   ·exact .inr (decide_eq_false fun h3 => h1 ⟨h2, h3⟩)
   ·exact .inl (decide_eq_false h2)
  rw [hff] at hf1
  have HF1 := Lib.hid hf1
  clear hf1 hf2 hlen hla hlb hff h1
  go_enter Try.func9, Try.ntmps9
  go_wp2_with (first
   | (go_at_call 10; refine (chawake_any _).mono ?_; rintro e w1 ⟨rfl, hb⟩; replace hB := below_more hB hb; clear hb)
   | (go_at_call 18; ((with_reducible refine (HF1.out _).mono ?_)); rintro e w2 ⟨rfl, rfl⟩))
  go_ret
  exact ⟨rfl, hB⟩
open Go.ChangeShapes Go.WideShapes Go.ChangeAt Go.WideMaps Go.WideElems Go.RowKit Go.Deep
theorem open_ibals {H : Type} {enc : TypeId × Value → H} {P : Program} {W : World} {b0 : Nat} {T E I : TypeId} {f0 f1 : Field} {v : Value} {d : DataW H} {p : List MemPlace} (hT : P.underlying T = some (.slice E)) (hE : P.underlying E = some (.struct #[f0, f1]))
  (hone : oneCellFields P #[f0, f1] = true) (hC : P.cellsOf E = 2) (hty : ([f0, f1].all fun f => f.type == I) = true) (hI : P.underlying I = some (.int .i64))
  (hval : Value.okWide P W .any b0 T v) (h : DataW.Trod enc P W 0 (fun _ => true) true T v d p) :
  ∃ A len cap L, v = .slice A len cap ∧ L.length = len ∧ len ≤ 9223372036854775807 ∧ BalAt W A L := by
 obtain ⟨A, len, cap, rfl, hmax, X, hX⟩ := open_irows hT hE hone hC hty hI (by simp) hval h
 refine ⟨A, len, cap, (List.range len).map fun k => ⟨X k 0, X k 1⟩, rfl, by simp, hmax, fun h0 => ?_⟩
 obtain ⟨b, off, e, hlt, hc⟩ := hX (by simpa using h0)
 refine ⟨b, off, e, hlt, fun i hi => ?_⟩
 have hi2 : i < len := by simpa using hi
 have hg : ((List.range len).map fun k => (⟨X k 0, X k 1⟩ : Bal)).getD i bal0 = ⟨X i 0, X i 1⟩ := by
  rw [List.getD_eq_getElem?_getD, List.getElem?_map, List.getElem?_range hi2]; rfl
 rw [hg]
 exact ⟨hc i hi2 0 (by simp), hc i hi2 1 (by simp)⟩
end Go.Proofs.Ytlhdnmpklaohkaa
